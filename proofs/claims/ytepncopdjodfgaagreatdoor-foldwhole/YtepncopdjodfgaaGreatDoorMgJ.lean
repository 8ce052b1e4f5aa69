import Derived.Test.YtepncopdjodfgaaGreatDoorMgA
namespace Go.Proofs.YtepncopdjodfgaaGreatDoor
open Go.RowKit
def GK (E:EnvP)(k:Nat):Prop:=EnvOk E->∀ t:Co,t.op=(k:Int)->CFit t->fitsB k E.wins.length E.crons.length 256 t=true->(∀ x,x∈t.parts->Good E x)->sortF ladF k t (t.parts.map (srt E))≠0->srt E t=sortF ladF k t (t.parts.map (srt E))->Good E t
theorem good_num {E:EnvP}{t:Co}{r:Int}(h:srt E t=r)(hr:r≠2)(hc:C64 (telV E t).1):Good E t:=⟨hc,fun e=>absurd (h.symm.trans e) hr⟩
theorem good_bool {E:EnvP}{t:Co}(h:(telV E t).1=0\/(telV E t).1=1):Good E t:=⟨by rcases h with h | h<;>rw[h]<;>(unfold C64;decide),fun _=>h⟩
theorem good_of {E:EnvP}{t x:Co}(hs:srt E t=srt E x)(hx:Good E x)(h:(telV E t).1=(telV E x).1\/(telV E t).1=0):Good E t:=by
 rcases h with h | h
 ·exact⟨by rw[h];exact hx.1,fun e=>by rw[h];exact hx.2 (hs.symm.trans e)⟩
 ·exact good_bool (.inl h)
theorem gk_1 (E:EnvP):GK E 1:=by
 intro hE t hop hf hb hg hz hs
 obtain⟨op,n,m,ps⟩:=t
 obtain rfl:op=1:=hop
 dsimp only at *
 obtain⟨e1,e2⟩:=mk_of (k:=1) (r:=1) (ts:=[]) rfl hz
 obtain rfl:=map0 e1
 have e:telV E ⟨1,n,m,[]⟩=okR n:=by rw[telV_eq];rfl
 exact good_num (hs.trans e2) (by decide) (by rw[e];exact hf.n)
theorem gk_2 (E:EnvP):GK E 2:=by
 intro hE t hop hf hb hg hz hs
 obtain⟨op,n,m,ps⟩:=t
 obtain rfl:op=2:=hop
 dsimp only at *
 obtain⟨e1,e2⟩:=mk_of (k:=2) (r:=2) (ts:=[]) rfl hz
 obtain rfl:=map0 e1
 have e:telV E ⟨2,n,m,[]⟩=okR n:=by rw[telV_eq];rfl
 have hb':(belowB n 2&&decide (m=0))=true:=hb
 simp only[belowB,Bool.and_eq_true,decide_eq_true_eq] at hb'
 exact good_bool (by rw[e];show n=0\/n=1;omega)
theorem gk_3 (E:EnvP):GK E 3:=by
 intro hE t hop hf hb hg hz hs
 obtain⟨op,n,m,ps⟩:=t
 obtain rfl:op=3:=hop
 dsimp only at *
 obtain⟨e1,e2⟩:=mk_of (k:=3) (r:=1) (ts:=[]) rfl hz
 obtain rfl:=map0 e1
 have e:telV E ⟨3,n,m,[]⟩=okR (held (E.rep*1000000)):=by rw[telV_eq];rfl
 exact good_num (hs.trans e2) (by decide) (by rw[e];exact held64 _)
theorem gk_4 (E:EnvP):GK E 4:=by
 intro hE t hop hf hb hg hz hs
 obtain⟨op,n,m,ps⟩:=t
 obtain rfl:op=4:=hop
 dsimp only at *
 obtain⟨e1,e2⟩:=mk_of (k:=4) (r:=1) (ts:=[]) rfl hz
 obtain rfl:=map0 e1
 have e:telV E ⟨4,n,m,[]⟩=if (E.wins.getD n.toNat (0,0)).1=0 then okR (E.wins.getD n.toNat (0,0)).2 else noR (E.wins.getD n.toNat (0,0)).1:=by rw[telV_eq];rfl
 refine good_num (hs.trans e2) (by decide) ?_
 rw[e]
 split
 ·exact(hE.wins _).2
 ·exact zero_64
theorem gk_5 (E:EnvP):GK E 5:=by
 intro hE t hop hf hb hg hz hs
 obtain⟨op,n,m,ps⟩:=t
 obtain rfl:op=5:=hop
 dsimp only at *
 obtain⟨e1,e2⟩:=mk_of (k:=5) (r:=2) (ts:=[]) rfl hz
 obtain rfl:=map0 e1
 have e:telV E ⟨5,n,m,[]⟩=okR (b2i (E.crons.getD n.toNat false)):=by rw[telV_eq];rfl
 exact good_bool (by rw[e];exact b2i_01 _)
theorem gk_6 (E:EnvP):GK E 6:=by
 intro hE t hop hf hb hg hz hs
 obtain⟨op,n,m,ps⟩:=t
 obtain rfl:op=6:=hop
 dsimp only at *
 have e:telV E ⟨6,n,m,ps⟩=noR n:=by rw[telV_eq];rfl
 exact good_bool (by rw[e];exact .inl rfl)
theorem gk_7 (E:EnvP):GK E 7:=by
 intro hE t hop hf hb hg hz hs
 obtain⟨op,n,m,ps⟩:=t
 obtain rfl:op=7:=hop
 dsimp only at *
 have hz':alikeF 1 (ps.map (srt E))≠0:=hz
 obtain⟨h1,h2,h3,h4⟩:=alike_of hz'
 obtain⟨x,rfl⟩:=len1 (by simpa using h1)
 have e:telV E ⟨7,n,m,[x]⟩=telV E x:=by rw[telV_eq];rfl
 exact good_of (hs.trans h4) (hg x (by simp)) (by rw[e];exact .inl rfl)
theorem gk_8 (E:EnvP):GK E 8:=by
 intro hE t hop hf hb hg hz hs
 obtain⟨op,n,m,ps⟩:=t
 obtain rfl:op=8:=hop
 dsimp only at *
 obtain⟨e1,e2⟩:=mk_of (k:=8) (r:=1) (ts:=[1]) rfl hz
 obtain⟨x,rfl,q0⟩:=map1 e1
 have g0:=hg x (by simp)
 have e:telV E ⟨8,n,m,[x]⟩=ofOneR (uF 8) (telV E x):=by rw[telV_eq];rfl
 refine good_num (hs.trans e2) (by decide) ?_
 rw[e]
 rcases ofOne_fst (uF 8) (telV E x) with h | h<;>rw[h]
 ·exact uF_64 8 _ (fun h=>absurd h (by decide))
 ·exact zero_64
theorem gk_10 (E:EnvP):GK E 10:=by
 intro hE t hop hf hb hg hz hs
 obtain⟨op,n,m,ps⟩:=t
 obtain rfl:op=10:=hop
 dsimp only at *
 obtain⟨e1,e2⟩:=mk_of (k:=10) (r:=1) (ts:=[1]) rfl hz
 obtain⟨x,rfl,q0⟩:=map1 e1
 have g0:=hg x (by simp)
 have e:telV E ⟨10,n,m,[x]⟩=ofOneR (uF 10) (telV E x):=by rw[telV_eq];rfl
 refine good_num (hs.trans e2) (by decide) ?_
 rw[e]
 rcases ofOne_fst (uF 10) (telV E x) with h | h<;>rw[h]
 ·exact uF_64 10 _ (fun h=>absurd h (by decide))
 ·exact zero_64
theorem gk_11 (E:EnvP):GK E 11:=by
 intro hE t hop hf hb hg hz hs
 obtain⟨op,n,m,ps⟩:=t
 obtain rfl:op=11:=hop
 dsimp only at *
 obtain⟨e1,e2⟩:=mk_of (k:=11) (r:=1) (ts:=[1]) rfl hz
 obtain⟨x,rfl,q0⟩:=map1 e1
 have g0:=hg x (by simp)
 have e:telV E ⟨11,n,m,[x]⟩=ofOneR (uF 11) (telV E x):=by rw[telV_eq];rfl
 refine good_num (hs.trans e2) (by decide) ?_
 rw[e]
 rcases ofOne_fst (uF 11) (telV E x) with h | h<;>rw[h]
 ·exact uF_64 11 _ (fun h=>absurd h (by decide))
 ·exact zero_64
theorem gk_12 (E:EnvP):GK E 12:=by
 intro hE t hop hf hb hg hz hs
 obtain⟨op,n,m,ps⟩:=t
 obtain rfl:op=12:=hop
 dsimp only at *
 obtain⟨e1,e2⟩:=mk_of (k:=12) (r:=1) (ts:=[1]) rfl hz
 obtain⟨x,rfl,q0⟩:=map1 e1
 have g0:=hg x (by simp)
 have e:telV E ⟨12,n,m,[x]⟩=ofOneR (uF 12) (telV E x):=by rw[telV_eq];rfl
 refine good_num (hs.trans e2) (by decide) ?_
 rw[e]
 rcases ofOne_fst (uF 12) (telV E x) with h | h<;>rw[h]
 ·exact uF_64 12 _ (fun h=>absurd h (by decide))
 ·exact zero_64
theorem gk_9 (E:EnvP):GK E 9:=by
 intro hE t hop hf hb hg hz hs
 obtain⟨op,n,m,ps⟩:=t
 obtain rfl:op=9:=hop
 dsimp only at *
 obtain⟨e1,e2⟩:=mk_of (k:=9) (r:=2) (ts:=[2]) rfl hz
 obtain⟨x,rfl,q0⟩:=map1 e1
 have g0:=hg x (by simp)
 have e:telV E ⟨9,n,m,[x]⟩=ofOneR (uF 9) (telV E x):=by rw[telV_eq];rfl
 refine good_bool ?_
 rw[e]
 rcases ofOne_fst (uF 9) (telV E x) with h | h<;>rw[h]
 ·show 1-(telV E x).1=0\/1-(telV E x).1=1
  rcases g0.2 q0 with h | h<;>rw[h]<;>decide
 ·exact .inl rfl
theorem gk_13 (E:EnvP):GK E 13:=by
 intro hE t hop hf hb hg hz hs
 obtain⟨op,n,m,ps⟩:=t
 obtain rfl:op=13:=hop
 dsimp only at *
 obtain⟨e1,e2⟩:=mk_of (k:=13) (r:=1) (ts:=[1]) rfl hz
 obtain⟨x,rfl,q0⟩:=map1 e1
 have g0:=hg x (by simp)
 have e:telV E ⟨13,n,m,[x]⟩=ofOneR (fun a=>held (a*n/m)) (telV E x):=by rw[telV_eq];rfl
 refine good_num (hs.trans e2) (by decide) ?_
 rw[e]
 rcases ofOne_fst (fun a=>held (a*n/m)) (telV E x) with h | h<;>rw[h]
 ·exact held64 _
 ·exact zero_64
theorem gk_14 (E:EnvP):GK E 14:=by
 intro hE t hop hf hb hg hz hs
 obtain⟨op,n,m,ps⟩:=t
 obtain rfl:op=14:=hop
 dsimp only at *
 obtain⟨e1,e2⟩:=mk_of (k:=14) (r:=1) (ts:=[1,1]) rfl hz
 obtain⟨x,y,rfl,q0,q1⟩:=map2 e1
 have g0:=hg x (by simp)
 have g1:=hg y (by simp)
 have e:telV E ⟨14,n,m,[x,y]⟩=ofTwoR (fun a b=>okR (bF 14 a b)) (telV E x) (telV E y):=by rw[telV_eq];rfl
 refine good_num (hs.trans e2) (by decide) ?_
 rw[e]
 rcases ofTwo_fst (fun a b=>okR (bF 14 a b)) (telV E x) (telV E y) with h | h<;>rw[h]
 ·exact bF_64 14 _ _ g0.1 g1.1
 ·exact zero_64
theorem gk_15 (E:EnvP):GK E 15:=by
 intro hE t hop hf hb hg hz hs
 obtain⟨op,n,m,ps⟩:=t
 obtain rfl:op=15:=hop
 dsimp only at *
 obtain⟨e1,e2⟩:=mk_of (k:=15) (r:=1) (ts:=[1,1]) rfl hz
 obtain⟨x,y,rfl,q0,q1⟩:=map2 e1
 have g0:=hg x (by simp)
 have g1:=hg y (by simp)
 have e:telV E ⟨15,n,m,[x,y]⟩=ofTwoR (fun a b=>okR (bF 15 a b)) (telV E x) (telV E y):=by rw[telV_eq];rfl
 refine good_num (hs.trans e2) (by decide) ?_
 rw[e]
 rcases ofTwo_fst (fun a b=>okR (bF 15 a b)) (telV E x) (telV E y) with h | h<;>rw[h]
 ·exact bF_64 15 _ _ g0.1 g1.1
 ·exact zero_64
theorem gk_16 (E:EnvP):GK E 16:=by
 intro hE t hop hf hb hg hz hs
 obtain⟨op,n,m,ps⟩:=t
 obtain rfl:op=16:=hop
 dsimp only at *
 obtain⟨e1,e2⟩:=mk_of (k:=16) (r:=1) (ts:=[1,1]) rfl hz
 obtain⟨x,y,rfl,q0,q1⟩:=map2 e1
 have g0:=hg x (by simp)
 have g1:=hg y (by simp)
 have e:telV E ⟨16,n,m,[x,y]⟩=ofTwoR (fun a b=>okR (bF 16 a b)) (telV E x) (telV E y):=by rw[telV_eq];rfl
 refine good_num (hs.trans e2) (by decide) ?_
 rw[e]
 rcases ofTwo_fst (fun a b=>okR (bF 16 a b)) (telV E x) (telV E y) with h | h<;>rw[h]
 ·exact bF_64 16 _ _ g0.1 g1.1
 ·exact zero_64
theorem gk_23 (E:EnvP):GK E 23:=by
 intro hE t hop hf hb hg hz hs
 obtain⟨op,n,m,ps⟩:=t
 obtain rfl:op=23:=hop
 dsimp only at *
 obtain⟨e1,e2⟩:=mk_of (k:=23) (r:=1) (ts:=[1,1]) rfl hz
 obtain⟨x,y,rfl,q0,q1⟩:=map2 e1
 have g0:=hg x (by simp)
 have g1:=hg y (by simp)
 have e:telV E ⟨23,n,m,[x,y]⟩=ofTwoR (fun a b=>okR (bF 23 a b)) (telV E x) (telV E y):=by rw[telV_eq];rfl
 refine good_num (hs.trans e2) (by decide) ?_
 rw[e]
 rcases ofTwo_fst (fun a b=>okR (bF 23 a b)) (telV E x) (telV E y) with h | h<;>rw[h]
 ·exact bF_64 23 _ _ g0.1 g1.1
 ·exact zero_64
theorem gk_24 (E:EnvP):GK E 24:=by
 intro hE t hop hf hb hg hz hs
 obtain⟨op,n,m,ps⟩:=t
 obtain rfl:op=24:=hop
 dsimp only at *
 obtain⟨e1,e2⟩:=mk_of (k:=24) (r:=1) (ts:=[1,1]) rfl hz
 obtain⟨x,y,rfl,q0,q1⟩:=map2 e1
 have g0:=hg x (by simp)
 have g1:=hg y (by simp)
 have e:telV E ⟨24,n,m,[x,y]⟩=ofTwoR (fun a b=>okR (bF 24 a b)) (telV E x) (telV E y):=by rw[telV_eq];rfl
 refine good_num (hs.trans e2) (by decide) ?_
 rw[e]
 rcases ofTwo_fst (fun a b=>okR (bF 24 a b)) (telV E x) (telV E y) with h | h<;>rw[h]
 ·exact bF_64 24 _ _ g0.1 g1.1
 ·exact zero_64
theorem gk_17 (E:EnvP):GK E 17:=by
 intro hE t hop hf hb hg hz hs
 obtain⟨op,n,m,ps⟩:=t
 obtain rfl:op=17:=hop
 dsimp only at *
 obtain⟨e1,e2⟩:=mk_of (k:=17) (r:=1) (ts:=[1,1]) rfl hz
 obtain⟨x,y,rfl,q0,q1⟩:=map2 e1
 have g0:=hg x (by simp)
 have g1:=hg y (by simp)
 have e:telV E ⟨17,n,m,[x,y]⟩=ofTwoR divR (telV E x) (telV E y):=by rw[telV_eq];rfl
 refine good_num (hs.trans e2) (by decide) ?_
 rw[e]
 rcases ofTwo_fst divR (telV E x) (telV E y) with h | h<;>rw[h]
 ·unfold divR
  split
  ·exact zero_64
  ·exact held64 _
 ·exact zero_64
theorem gk_18 (E:EnvP):GK E 18:=by
 intro hE t hop hf hb hg hz hs
 obtain⟨op,n,m,ps⟩:=t
 obtain rfl:op=18:=hop
 dsimp only at *
 obtain⟨e1,e2⟩:=mk_of (k:=18) (r:=2) (ts:=[1,1]) rfl hz
 obtain⟨x,y,rfl,q0,q1⟩:=map2 e1
 have g0:=hg x (by simp)
 have g1:=hg y (by simp)
 have e:telV E ⟨18,n,m,[x,y]⟩=ofTwoR (fun a b=>okR (bF 18 a b)) (telV E x) (telV E y):=by rw[telV_eq];rfl
 refine good_bool ?_
 rw[e]
 rcases ofTwo_fst (fun a b=>okR (bF 18 a b)) (telV E x) (telV E y) with h | h<;>rw[h]
 ·exact bF_01 18 _ _ (by decide) (by decide)
 ·exact .inl rfl
theorem gk_19 (E:EnvP):GK E 19:=by
 intro hE t hop hf hb hg hz hs
 obtain⟨op,n,m,ps⟩:=t
 obtain rfl:op=19:=hop
 dsimp only at *
 obtain⟨e1,e2⟩:=mk_of (k:=19) (r:=2) (ts:=[1,1]) rfl hz
 obtain⟨x,y,rfl,q0,q1⟩:=map2 e1
 have g0:=hg x (by simp)
 have g1:=hg y (by simp)
 have e:telV E ⟨19,n,m,[x,y]⟩=ofTwoR (fun a b=>okR (bF 19 a b)) (telV E x) (telV E y):=by rw[telV_eq];rfl
 refine good_bool ?_
 rw[e]
 rcases ofTwo_fst (fun a b=>okR (bF 19 a b)) (telV E x) (telV E y) with h | h<;>rw[h]
 ·exact bF_01 19 _ _ (by decide) (by decide)
 ·exact .inl rfl
theorem gk_20 (E:EnvP):GK E 20:=by
 intro hE t hop hf hb hg hz hs
 obtain⟨op,n,m,ps⟩:=t
 obtain rfl:op=20:=hop
 dsimp only at *
 obtain⟨e1,e2⟩:=mk_of (k:=20) (r:=2) (ts:=[1,1]) rfl hz
 obtain⟨x,y,rfl,q0,q1⟩:=map2 e1
 have g0:=hg x (by simp)
 have g1:=hg y (by simp)
 have e:telV E ⟨20,n,m,[x,y]⟩=ofTwoR (fun a b=>okR (bF 20 a b)) (telV E x) (telV E y):=by rw[telV_eq];rfl
 refine good_bool ?_
 rw[e]
 rcases ofTwo_fst (fun a b=>okR (bF 20 a b)) (telV E x) (telV E y) with h | h<;>rw[h]
 ·exact bF_01 20 _ _ (by decide) (by decide)
 ·exact .inl rfl
theorem gk_21 (E:EnvP):GK E 21:=by
 intro hE t hop hf hb hg hz hs
 obtain⟨op,n,m,ps⟩:=t
 obtain rfl:op=21:=hop
 dsimp only at *
 obtain⟨e1,e2⟩:=mk_of (k:=21) (r:=2) (ts:=[1,1]) rfl hz
 obtain⟨x,y,rfl,q0,q1⟩:=map2 e1
 have g0:=hg x (by simp)
 have g1:=hg y (by simp)
 have e:telV E ⟨21,n,m,[x,y]⟩=ofTwoR (fun a b=>okR (bF 21 a b)) (telV E x) (telV E y):=by rw[telV_eq];rfl
 refine good_bool ?_
 rw[e]
 rcases ofTwo_fst (fun a b=>okR (bF 21 a b)) (telV E x) (telV E y) with h | h<;>rw[h]
 ·exact bF_01 21 _ _ (by decide) (by decide)
 ·exact .inl rfl
theorem gk_22 (E:EnvP):GK E 22:=by
 intro hE t hop hf hb hg hz hs
 obtain⟨op,n,m,ps⟩:=t
 obtain rfl:op=22:=hop
 dsimp only at *
 obtain⟨e1,e2⟩:=mk_of (k:=22) (r:=2) (ts:=[1,1]) rfl hz
 obtain⟨x,y,rfl,q0,q1⟩:=map2 e1
 have g0:=hg x (by simp)
 have g1:=hg y (by simp)
 have e:telV E ⟨22,n,m,[x,y]⟩=ofTwoR (fun a b=>okR (bF 22 a b)) (telV E x) (telV E y):=by rw[telV_eq];rfl
 refine good_bool ?_
 rw[e]
 rcases ofTwo_fst (fun a b=>okR (bF 22 a b)) (telV E x) (telV E y) with h | h<;>rw[h]
 ·exact bF_01 22 _ _ (by decide) (by decide)
 ·exact .inl rfl
theorem gk_25 (E:EnvP):GK E 25:=by
 intro hE t hop hf hb hg hz hs
 obtain⟨op,n,m,ps⟩:=t
 obtain rfl:op=25:=hop
 dsimp only at *
 obtain⟨e1,e2⟩:=mk_of (k:=25) (r:=2) (ts:=[2,2]) rfl hz
 obtain⟨x,y,rfl,q0,q1⟩:=map2 e1
 have g0:=hg x (by simp)
 have g1:=hg y (by simp)
 have e:telV E ⟨25,n,m,[x,y]⟩=if (telV E x).2=0/\(telV E x).1≠0 then telV E y else noR (telV E x).2:=by rw[telV_eq];rfl
 refine good_bool ?_
 rw[e]
 split
 ·exact g1.2 q1
 ·exact .inl rfl
theorem gk_26 (E:EnvP):GK E 26:=by
 intro hE t hop hf hb hg hz hs
 obtain⟨op,n,m,ps⟩:=t
 obtain rfl:op=26:=hop
 dsimp only at *
 obtain⟨e1,e2⟩:=mk_of (k:=26) (r:=2) (ts:=[2,2]) rfl hz
 obtain⟨x,y,rfl,q0,q1⟩:=map2 e1
 have g0:=hg x (by simp)
 have g1:=hg y (by simp)
 have e:telV E ⟨26,n,m,[x,y]⟩=if (telV E x).2=0/\(telV E x).1≠1 then telV E y else telV E x:=by rw[telV_eq];rfl
 refine good_bool ?_
 rw[e]
 split
 ·exact g1.2 q1
 ·exact g0.2 q0
theorem gk_27 (E:EnvP):GK E 27:=by
 intro hE t hop hf hb hg hz hs
 obtain⟨op,n,m,ps⟩:=t
 obtain rfl:op=27:=hop
 dsimp only at *
 have hz':alikeF 2 (ps.map (srt E))≠0:=hz
 obtain⟨h1,h2,h3,h4⟩:=alike_of hz'
 obtain⟨x,y,rfl⟩:=len2 (by simpa using h1)
 have hy:srt E y=srt E x:=h3 (srt E y) (by simp)
 have e:telV E ⟨27,n,m,[x,y]⟩=if (telV E x).2=0 then telV E x else telV E y:=by rw[telV_eq];rfl
 by_cases h:(telV E x).2=0
 ·rw[if_pos h] at e
  exact good_of (hs.trans h4) (hg x (by simp)) (by rw[e];exact .inl rfl)
 ·rw[if_neg h] at e
  exact good_of ((hs.trans h4).trans hy.symm) (hg y (by simp)) (by rw[e];exact .inl rfl)
theorem gk_28 (E:EnvP):GK E 28:=by
 intro hE t hop hf hb hg hz hs
 obtain⟨op,n,m,ps⟩:=t
 obtain rfl:op=28:=hop
 dsimp only at *
 have hz':choiceF (ps.map (srt E))≠0:=hz
 obtain⟨a,h1,h4⟩:=choice_of hz'
 obtain⟨x,y,z,rfl⟩:=len3 (by have:=congrArg List.length h1;simpa using this)
 simp only[List.map_cons,List.map_nil,List.cons.injEq,and_true] at h1
 obtain⟨hx,hy,hz2⟩:=h1
 have e:telV E ⟨28,n,m,[x,y,z]⟩=if (telV E x).2=0 then (if (telV E x).1=1 then telV E y else telV E z) else noR (telV E x).2:=by rw[telV_eq];rfl
 by_cases h:(telV E x).2=0
 ·rw[if_pos h] at e
  by_cases h':(telV E x).1=1
  ·rw[if_pos h'] at e
   exact good_of ((hs.trans h4).trans hy.symm) (hg y (by simp)) (by rw[e];exact .inl rfl)
  ·rw[if_neg h'] at e
   exact good_of ((hs.trans h4).trans hz2.symm) (hg z (by simp)) (by rw[e];exact .inl rfl)
 ·rw[if_neg h] at e
  exact good_bool (by rw[e];exact .inl rfl)
theorem gk_29 (E:EnvP):GK E 29:=by
 intro hE t hop hf hb hg hz hs
 obtain⟨op,n,m,ps⟩:=t
 obtain rfl:op=29:=hop
 dsimp only at *
 have e:telV E ⟨29,n,m,ps⟩=noR 4:=by rw[telV_eq];rfl
 exact good_bool (by rw[e];exact .inl rfl)
theorem gk_30 (E:EnvP):GK E 30:=by
 intro hE t hop hf hb hg hz hs
 obtain⟨op,n,m,ps⟩:=t
 obtain rfl:op=30:=hop
 dsimp only at *
 obtain⟨e1,e2⟩:=mk_of (k:=30) (r:=3) (ts:=[1]) rfl hz
 obtain⟨x,rfl,q0⟩:=map1 e1
 have g0:=hg x (by simp)
 have e:telV E ⟨30,n,m,[x]⟩=ofOneR countF (telV E x):=by rw[telV_eq];rfl
 refine good_num (hs.trans e2) (by decide) ?_
 rw[e]
 rcases ofOne_fst countF (telV E x) with h | h<;>rw[h]
 ·exact count_64 _
 ·exact zero_64
theorem gk_31 (E:EnvP):GK E 31:=by
 intro hE t hop hf hb hg hz hs
 obtain⟨op,n,m,ps⟩:=t
 obtain rfl:op=31:=hop
 dsimp only at *
 obtain⟨e1,e2⟩:=mk_of (k:=31) (r:=3) (ts:=[1]) rfl hz
 obtain⟨x,rfl,q0⟩:=map1 e1
 have g0:=hg x (by simp)
 have e:telV E ⟨31,n,m,[x]⟩=ofOneR (fun a=>held (E.rep+countF a)) (telV E x):=by rw[telV_eq];rfl
 refine good_num (hs.trans e2) (by decide) ?_
 rw[e]
 rcases ofOne_fst (fun a=>held (E.rep+countF a)) (telV E x) with h | h<;>rw[h]
 ·exact held64 _
 ·exact zero_64
theorem gk_32 (E:EnvP):GK E 32:=by
 intro hE t hop hf hb hg hz hs
 obtain⟨op,n,m,ps⟩:=t
 obtain rfl:op=32:=hop
 dsimp only at *
 have e:telV E ⟨32,n,m,ps⟩=ladR ps (ps.map (telV E)):=by rw[telV_eq];rfl
 have hl:srt E ⟨32,n,m,ps⟩=3\/srt E ⟨32,n,m,ps⟩=0:=by
  rw[hs]
  show ladF _ _=3\/ladF _ _=0
  unfold ladF
  split
  ·exact .inl rfl
  ·exact .inr rfl
 refine good_num (r:=3) (hl.resolve_right (fun h=>hz (hs.symm.trans h))) (by decide) ?_
 rw[e]
 unfold ladR
 split
 ·generalize ladI _ _ _ _ _=i
  by_cases h:i<ps.length
  ·rw[show (ps.map (telV E)).getD i (0,0)=telV E ps[i] from by simp[List.getD,List.getElem?_map,List.getElem?_eq_getElem h]]
   exact(hg _ (List.getElem_mem h)).1
  ·rw[show (ps.map (telV E)).getD i (0,0)=(0,0) from by simp[List.getD,List.getElem?_map,List.getElem?_eq_none (Nat.not_lt.1 h)]]
   exact zero_64
 ·exact zero_64
theorem gk_all (E:EnvP):∀ k,1<=k->k<=32->GK E k:=op_cases (gk_1 E) (gk_2 E) (gk_3 E) (gk_4 E) (gk_5 E) (gk_6 E) (gk_7 E) (gk_8 E) (gk_9 E) (gk_10 E) (gk_11 E) (gk_12 E) (gk_13 E) (gk_14 E) (gk_15 E) (gk_16 E) (gk_17 E) (gk_18 E) (gk_19 E) (gk_20 E) (gk_21 E) (gk_22 E) (gk_23 E) (gk_24 E) (gk_25 E) (gk_26 E) (gk_27 E) (gk_28 E) (gk_29 E) (gk_30 E) (gk_31 E) (gk_32 E)
def Lies (t:Co):Prop:=∃ w v,CSits w t v
theorem Lies.parts {t x:Co}(h:Lies t)(hx:x∈t.parts):Lies x:=by
 obtain⟨w,v,hs⟩:=h
 obtain⟨b,off,cap,-,-,-,-,hp⟩:=hs.parts.open (List.length_pos_of_mem hx)
 obtain⟨i,hi,rfl⟩:=List.getElem_of_mem hx
 obtain⟨u,-,hu⟩:=hp i hi
 exact⟨w,u,hu⟩
theorem Lies.fit {t:Co}(h:Lies t):CFit t:=by
 obtain⟨w,v,hs⟩:=h
 exact hs.fit
theorem good_all (E:EnvP)(hE:EnvOk E)(t:Co):Lies t->srt E t≠0->Good E t:=by
 induction t using Co.ind with
 | h t ih=>
   intro hl hz
   obtain⟨k,hop,h1,h2,hb,hp,hs⟩:=formed_of hz
   exact gk_all E k h1 h2 hE t hop hl.fit hb (fun x hx=>ih x hx (hl.parts hx) (hp x hx)) (by rw[<-hs];exact hz) hs
def Part (E:EnvP)(x:Co):Prop:=TeC E x/\Good E x
def PK (E:EnvP)(k:Nat):Prop:=EnvOk E->∀ t:Co,t.op=(k:Int)->cnodes t<=8192->fitsB k E.wins.length E.crons.length 256 t=true->(∀ x,x∈t.parts->Part E x)->sortF ladF k t (t.parts.map (srt E))≠0->CFit t->WkC E k t
theorem pk_1 (E:EnvP):PK E 1:=by
 intro hE t hop hn hb hg hz hf
 obtain⟨op,n,m,ps⟩:=t
 obtain rfl:op=1:=hop
 dsimp only at *
 exact wk_own E _ 1 (.inl rfl) rfl
theorem pk_2 (E:EnvP):PK E 2:=by
 intro hE t hop hn hb hg hz hf
 obtain⟨op,n,m,ps⟩:=t
 obtain rfl:op=2:=hop
 dsimp only at *
 exact wk_own E _ 2 (.inr rfl) rfl
theorem pk_3 (E:EnvP):PK E 3:=by
 intro hE t hop hn hb hg hz hf
 obtain⟨op,n,m,ps⟩:=t
 obtain rfl:op=3:=hop
 dsimp only at *
 exact wk_rep E _ rfl
theorem pk_4 (E:EnvP):PK E 4:=by
 intro hE t hop hn hb hg hz hf
 obtain⟨op,n,m,ps⟩:=t
 obtain rfl:op=4:=hop
 dsimp only at *
 have hb':(belowB n E.wins.length&&decide (m=0))=true:=hb
 simp only[belowB,Bool.and_eq_true,decide_eq_true_eq] at hb'
 exact wk_win E _ rfl hb'.1.1 hb'.1.2
theorem pk_5 (E:EnvP):PK E 5:=by
 intro hE t hop hn hb hg hz hf
 obtain⟨op,n,m,ps⟩:=t
 obtain rfl:op=5:=hop
 dsimp only at *
 have hb':(belowB n E.crons.length&&decide (m=0))=true:=hb
 simp only[belowB,Bool.and_eq_true,decide_eq_true_eq] at hb'
 exact wk_cron E _ rfl hb'.1.1 hb'.1.2
theorem pk_6 (E:EnvP):PK E 6:=by
 intro hE t hop hn hb hg hz hf
 obtain⟨op,n,m,ps⟩:=t
 obtain rfl:op=6:=hop
 dsimp only at *
 have hb':(decide (1<=n)&&(decide (n<=3)&&(decide (m=1)||decide (m=2))))=true:=hb
 simp only[Bool.and_eq_true,decide_eq_true_eq] at hb'
 exact wk_fail E _ rfl (by show n≠0;omega)
theorem pk_7 (E:EnvP):PK E 7:=by
 intro hE t hop hn hb hg hz hf
 obtain⟨op,n,m,ps⟩:=t
 obtain rfl:op=7:=hop
 dsimp only at *
 have hz':alikeF 1 (ps.map (srt E))≠0:=hz
 obtain⟨h1,-,-,-⟩:=alike_of hz'
 obtain⟨x,rfl⟩:=len1 (by simpa using h1)
 exact wk_memo E n m x (hg x (by simp)).1
theorem pk_8 (E:EnvP):PK E 8:=by
 intro hE t hop hn hb hg hz hf
 obtain⟨op,n,m,ps⟩:=t
 obtain rfl:op=8:=hop
 dsimp only at *
 obtain⟨e1,-⟩:=mk_of (k:=8) (r:=1) (ts:=[1]) rfl hz
 obtain⟨x,rfl,q0⟩:=map1 e1
 obtain⟨H0,g0⟩:=hg x (by simp)
 intro v tb b w f q hs ht hw
 obtain⟨p,e,hp⟩:=hw
 cases e
 have hT:telV E ⟨8,n,m,[x]⟩=ofOneR (uF 8) (telV E x):=by rw[telV_eq];rfl
 rw[hT]
 exact one_c E 8 n m x 183 p (uF 8) un_neg.1 H0 (fun W=>un_neg.2 _ W g0.1 trivial) v tb b w hs ht hp
theorem pk_9 (E:EnvP):PK E 9:=by
 intro hE t hop hn hb hg hz hf
 obtain⟨op,n,m,ps⟩:=t
 obtain rfl:op=9:=hop
 dsimp only at *
 obtain⟨e1,-⟩:=mk_of (k:=9) (r:=2) (ts:=[2]) rfl hz
 obtain⟨x,rfl,q0⟩:=map1 e1
 obtain⟨H0,g0⟩:=hg x (by simp)
 intro v tb b w f q hs ht hw
 obtain⟨p,e,hp⟩:=hw
 cases e
 have hT:telV E ⟨9,n,m,[x]⟩=ofOneR (uF 9) (telV E x):=by rw[telV_eq];rfl
 rw[hT]
 exact one_c E 9 n m x 184 p (uF 9) un_not.1 H0 (fun W=>un_not.2 _ W g0.1 (g0.2 q0)) v tb b w hs ht hp
theorem pk_10 (E:EnvP):PK E 10:=by
 intro hE t hop hn hb hg hz hf
 obtain⟨op,n,m,ps⟩:=t
 obtain rfl:op=10:=hop
 dsimp only at *
 obtain⟨e1,-⟩:=mk_of (k:=10) (r:=1) (ts:=[1]) rfl hz
 obtain⟨x,rfl,q0⟩:=map1 e1
 obtain⟨H0,g0⟩:=hg x (by simp)
 intro v tb b w f q hs ht hw
 obtain⟨p,e,hp⟩:=hw
 cases e
 have hT:telV E ⟨10,n,m,[x]⟩=ofOneR (uF 10) (telV E x):=by rw[telV_eq];rfl
 rw[hT]
 exact one_c E 10 n m x 185 p (uF 10) un_abs.1 H0 (fun W=>un_abs.2 _ W g0.1 trivial) v tb b w hs ht hp
theorem pk_11 (E:EnvP):PK E 11:=by
 intro hE t hop hn hb hg hz hf
 obtain⟨op,n,m,ps⟩:=t
 obtain rfl:op=11:=hop
 dsimp only at *
 obtain⟨e1,-⟩:=mk_of (k:=11) (r:=1) (ts:=[1]) rfl hz
 obtain⟨x,rfl,q0⟩:=map1 e1
 obtain⟨H0,g0⟩:=hg x (by simp)
 intro v tb b w f q hs ht hw
 obtain⟨p,e,hp⟩:=hw
 cases e
 have hT:telV E ⟨11,n,m,[x]⟩=ofOneR (uF 11) (telV E x):=by rw[telV_eq];rfl
 rw[hT]
 exact one_c E 11 n m x 186 p (uF 11) un_ceil.1 H0 (fun W=>un_ceil.2 _ W g0.1 trivial) v tb b w hs ht hp
theorem pk_12 (E:EnvP):PK E 12:=by
 intro hE t hop hn hb hg hz hf
 obtain⟨op,n,m,ps⟩:=t
 obtain rfl:op=12:=hop
 dsimp only at *
 obtain⟨e1,-⟩:=mk_of (k:=12) (r:=1) (ts:=[1]) rfl hz
 obtain⟨x,rfl,q0⟩:=map1 e1
 obtain⟨H0,g0⟩:=hg x (by simp)
 intro v tb b w f q hs ht hw
 obtain⟨p,e,hp⟩:=hw
 cases e
 have hT:telV E ⟨12,n,m,[x]⟩=ofOneR (uF 12) (telV E x):=by rw[telV_eq];rfl
 rw[hT]
 exact one_c E 12 n m x 187 p (uF 12) un_floor.1 H0 (fun W=>un_floor.2 _ W g0.1 trivial) v tb b w hs ht hp
theorem pk_13 (E:EnvP):PK E 13:=by
 intro hE t hop hn hb hg hz hf
 obtain⟨op,n,m,ps⟩:=t
 obtain rfl:op=13:=hop
 dsimp only at *
 obtain⟨e1,-⟩:=mk_of (k:=13) (r:=1) (ts:=[1]) rfl hz
 obtain⟨x,rfl,q0⟩:=map1 e1
 obtain⟨H0,g0⟩:=hg x (by simp)
 have hb':(decide (0<=n)&&decide (1<=m))=true:=hb
 simp only[Bool.and_eq_true,decide_eq_true_eq] at hb'
 exact wk_scale E n m x H0 (fun W=>Scale_of _ n m g0.1.1 (lt64 g0.1) hb'.1 (lt64 hf.n) hb'.2 (lt64 hf.m) (divOK_any _ _ (by omega) (by have:=lt64 hf.m;dsimp only at this;omega)) W)
theorem pk_14 (E:EnvP):PK E 14:=by
 intro hE t hop hn hb hg hz hf
 obtain⟨op,n,m,ps⟩:=t
 obtain rfl:op=14:=hop
 dsimp only at *
 obtain⟨e1,-⟩:=mk_of (k:=14) (r:=1) (ts:=[1,1]) rfl hz
 obtain⟨x,y,rfl,q0,q1⟩:=map2 e1
 obtain⟨H0,g0⟩:=hg x (by simp)
 obtain⟨H1,g1⟩:=hg y (by simp)
 intro v tb b w f q hs ht hw
 obtain⟨p,e,hp⟩:=hw
 cases e
 have hT:telV E ⟨14,n,m,[x,y]⟩=ofTwoR (fun a b=>okR (bF 14 a b)) (telV E x) (telV E y):=by rw[telV_eq];rfl
 rw[hT]
 exact two_c E 14 n m x y 191 p (bF 14) bi_add.1 H0 H1 (fun W=>bi_add.2 _ _ W g0.1 g1.1) v tb b w hs ht hp
theorem pk_15 (E:EnvP):PK E 15:=by
 intro hE t hop hn hb hg hz hf
 obtain⟨op,n,m,ps⟩:=t
 obtain rfl:op=15:=hop
 dsimp only at *
 obtain⟨e1,-⟩:=mk_of (k:=15) (r:=1) (ts:=[1,1]) rfl hz
 obtain⟨x,y,rfl,q0,q1⟩:=map2 e1
 obtain⟨H0,g0⟩:=hg x (by simp)
 obtain⟨H1,g1⟩:=hg y (by simp)
 intro v tb b w f q hs ht hw
 obtain⟨p,e,hp⟩:=hw
 cases e
 have hT:telV E ⟨15,n,m,[x,y]⟩=ofTwoR (fun a b=>okR (bF 15 a b)) (telV E x) (telV E y):=by rw[telV_eq];rfl
 rw[hT]
 exact two_c E 15 n m x y 192 p (bF 15) bi_sub.1 H0 H1 (fun W=>bi_sub.2 _ _ W g0.1 g1.1) v tb b w hs ht hp
theorem pk_16 (E:EnvP):PK E 16:=by
 intro hE t hop hn hb hg hz hf
 obtain⟨op,n,m,ps⟩:=t
 obtain rfl:op=16:=hop
 dsimp only at *
 obtain⟨e1,-⟩:=mk_of (k:=16) (r:=1) (ts:=[1,1]) rfl hz
 obtain⟨x,y,rfl,q0,q1⟩:=map2 e1
 obtain⟨H0,g0⟩:=hg x (by simp)
 obtain⟨H1,g1⟩:=hg y (by simp)
 intro v tb b w f q hs ht hw
 obtain⟨p,e,hp⟩:=hw
 cases e
 have hT:telV E ⟨16,n,m,[x,y]⟩=ofTwoR (fun a b=>okR (bF 16 a b)) (telV E x) (telV E y):=by rw[telV_eq];rfl
 rw[hT]
 exact two_c E 16 n m x y 193 p (bF 16) bi_mul.1 H0 H1 (fun W=>bi_mul.2 _ _ W g0.1 g1.1) v tb b w hs ht hp
theorem pk_17 (E:EnvP):PK E 17:=by
 intro hE t hop hn hb hg hz hf
 obtain⟨op,n,m,ps⟩:=t
 obtain rfl:op=17:=hop
 dsimp only at *
 obtain⟨e1,-⟩:=mk_of (k:=17) (r:=1) (ts:=[1,1]) rfl hz
 obtain⟨x,y,rfl,q0,q1⟩:=map2 e1
 obtain⟨H0,g0⟩:=hg x (by simp)
 obtain⟨H1,g1⟩:=hg y (by simp)
 intro v tb b w f q hs ht hw
 cases hw
 have hT:telV E ⟨17,n,m,[x,y]⟩=ofTwoR divR (telV E x) (telV E y):=by rw[telV_eq];rfl
 rw[hT]
 refine div_c E 17 n m x y H0 H1 (fun W=>?_) v tb b w hs ht
 by_cases h:(telV E y).1=0
 ·rw[if_pos h,decide_eq_false (fun k=>k h),h]
  exact Div_zero _ W
 ·rw[if_neg h,decide_eq_true h]
  exact Div_of _ _ g0.1.1 (lt64 g0.1) g1.1.1 (lt64 g1.1) h (divOK_any _ _ (by omega) (by have:=g1.1.1;have:=g1.1.2;omega)) W
theorem pk_18 (E:EnvP):PK E 18:=by
 intro hE t hop hn hb hg hz hf
 obtain⟨op,n,m,ps⟩:=t
 obtain rfl:op=18:=hop
 dsimp only at *
 obtain⟨e1,-⟩:=mk_of (k:=18) (r:=2) (ts:=[1,1]) rfl hz
 obtain⟨x,y,rfl,q0,q1⟩:=map2 e1
 obtain⟨H0,g0⟩:=hg x (by simp)
 obtain⟨H1,g1⟩:=hg y (by simp)
 intro v tb b w f q hs ht hw
 obtain⟨p,e,hp⟩:=hw
 cases e
 have hT:telV E ⟨18,n,m,[x,y]⟩=ofTwoR (fun a b=>okR (bF 18 a b)) (telV E x) (telV E y):=by rw[telV_eq];rfl
 rw[hT]
 exact two_c E 18 n m x y 195 p (bF 18) bi_less.1 H0 H1 (fun W=>bi_less.2 _ _ W g0.1 g1.1) v tb b w hs ht hp
theorem pk_19 (E:EnvP):PK E 19:=by
 intro hE t hop hn hb hg hz hf
 obtain⟨op,n,m,ps⟩:=t
 obtain rfl:op=19:=hop
 dsimp only at *
 obtain⟨e1,-⟩:=mk_of (k:=19) (r:=2) (ts:=[1,1]) rfl hz
 obtain⟨x,y,rfl,q0,q1⟩:=map2 e1
 obtain⟨H0,g0⟩:=hg x (by simp)
 obtain⟨H1,g1⟩:=hg y (by simp)
 intro v tb b w f q hs ht hw
 obtain⟨p,e,hp⟩:=hw
 cases e
 have hT:telV E ⟨19,n,m,[x,y]⟩=ofTwoR (fun a b=>okR (bF 19 a b)) (telV E x) (telV E y):=by rw[telV_eq];rfl
 rw[hT]
 exact two_c E 19 n m x y 196 p (bF 19) bi_leq.1 H0 H1 (fun W=>bi_leq.2 _ _ W g0.1 g1.1) v tb b w hs ht hp
theorem pk_20 (E:EnvP):PK E 20:=by
 intro hE t hop hn hb hg hz hf
 obtain⟨op,n,m,ps⟩:=t
 obtain rfl:op=20:=hop
 dsimp only at *
 obtain⟨e1,-⟩:=mk_of (k:=20) (r:=2) (ts:=[1,1]) rfl hz
 obtain⟨x,y,rfl,q0,q1⟩:=map2 e1
 obtain⟨H0,g0⟩:=hg x (by simp)
 obtain⟨H1,g1⟩:=hg y (by simp)
 intro v tb b w f q hs ht hw
 obtain⟨p,e,hp⟩:=hw
 cases e
 have hT:telV E ⟨20,n,m,[x,y]⟩=ofTwoR (fun a b=>okR (bF 20 a b)) (telV E x) (telV E y):=by rw[telV_eq];rfl
 rw[hT]
 exact two_c E 20 n m x y 197 p (bF 20) bi_eq.1 H0 H1 (fun W=>bi_eq.2 _ _ W g0.1 g1.1) v tb b w hs ht hp
theorem pk_21 (E:EnvP):PK E 21:=by
 intro hE t hop hn hb hg hz hf
 obtain⟨op,n,m,ps⟩:=t
 obtain rfl:op=21:=hop
 dsimp only at *
 obtain⟨e1,-⟩:=mk_of (k:=21) (r:=2) (ts:=[1,1]) rfl hz
 obtain⟨x,y,rfl,q0,q1⟩:=map2 e1
 obtain⟨H0,g0⟩:=hg x (by simp)
 obtain⟨H1,g1⟩:=hg y (by simp)
 intro v tb b w f q hs ht hw
 obtain⟨p,e,hp⟩:=hw
 cases e
 have hT:telV E ⟨21,n,m,[x,y]⟩=ofTwoR (fun a b=>okR (bF 21 a b)) (telV E x) (telV E y):=by rw[telV_eq];rfl
 rw[hT]
 exact two_c E 21 n m x y 198 p (bF 21) bi_more.1 H0 H1 (fun W=>bi_more.2 _ _ W g0.1 g1.1) v tb b w hs ht hp
theorem pk_22 (E:EnvP):PK E 22:=by
 intro hE t hop hn hb hg hz hf
 obtain⟨op,n,m,ps⟩:=t
 obtain rfl:op=22:=hop
 dsimp only at *
 obtain⟨e1,-⟩:=mk_of (k:=22) (r:=2) (ts:=[1,1]) rfl hz
 obtain⟨x,y,rfl,q0,q1⟩:=map2 e1
 obtain⟨H0,g0⟩:=hg x (by simp)
 obtain⟨H1,g1⟩:=hg y (by simp)
 intro v tb b w f q hs ht hw
 obtain⟨p,e,hp⟩:=hw
 cases e
 have hT:telV E ⟨22,n,m,[x,y]⟩=ofTwoR (fun a b=>okR (bF 22 a b)) (telV E x) (telV E y):=by rw[telV_eq];rfl
 rw[hT]
 exact two_c E 22 n m x y 199 p (bF 22) bi_meq.1 H0 H1 (fun W=>bi_meq.2 _ _ W g0.1 g1.1) v tb b w hs ht hp
theorem pk_23 (E:EnvP):PK E 23:=by
 intro hE t hop hn hb hg hz hf
 obtain⟨op,n,m,ps⟩:=t
 obtain rfl:op=23:=hop
 dsimp only at *
 obtain⟨e1,-⟩:=mk_of (k:=23) (r:=1) (ts:=[1,1]) rfl hz
 obtain⟨x,y,rfl,q0,q1⟩:=map2 e1
 obtain⟨H0,g0⟩:=hg x (by simp)
 obtain⟨H1,g1⟩:=hg y (by simp)
 intro v tb b w f q hs ht hw
 obtain⟨p,e,hp⟩:=hw
 cases e
 have hT:telV E ⟨23,n,m,[x,y]⟩=ofTwoR (fun a b=>okR (bF 23 a b)) (telV E x) (telV E y):=by rw[telV_eq];rfl
 rw[hT]
 exact two_c E 23 n m x y 200 p (bF 23) bi_lesser.1 H0 H1 (fun W=>bi_lesser.2 _ _ W g0.1 g1.1) v tb b w hs ht hp
theorem pk_24 (E:EnvP):PK E 24:=by
 intro hE t hop hn hb hg hz hf
 obtain⟨op,n,m,ps⟩:=t
 obtain rfl:op=24:=hop
 dsimp only at *
 obtain⟨e1,-⟩:=mk_of (k:=24) (r:=1) (ts:=[1,1]) rfl hz
 obtain⟨x,y,rfl,q0,q1⟩:=map2 e1
 obtain⟨H0,g0⟩:=hg x (by simp)
 obtain⟨H1,g1⟩:=hg y (by simp)
 intro v tb b w f q hs ht hw
 obtain⟨p,e,hp⟩:=hw
 cases e
 have hT:telV E ⟨24,n,m,[x,y]⟩=ofTwoR (fun a b=>okR (bF 24 a b)) (telV E x) (telV E y):=by rw[telV_eq];rfl
 rw[hT]
 exact two_c E 24 n m x y 201 p (bF 24) bi_greater.1 H0 H1 (fun W=>bi_greater.2 _ _ W g0.1 g1.1) v tb b w hs ht hp
theorem pk_25 (E:EnvP):PK E 25:=by
 intro hE t hop hn hb hg hz hf
 obtain⟨op,n,m,ps⟩:=t
 obtain rfl:op=25:=hop
 dsimp only at *
 obtain⟨e1,-⟩:=mk_of (k:=25) (r:=2) (ts:=[2,2]) rfl hz
 obtain⟨x,y,rfl,q0,q1⟩:=map2 e1
 obtain⟨H0,g0⟩:=hg x (by simp)
 obtain⟨H1,g1⟩:=hg y (by simp)
 exact wk_and E n m x y H0 H1
theorem pk_26 (E:EnvP):PK E 26:=by
 intro hE t hop hn hb hg hz hf
 obtain⟨op,n,m,ps⟩:=t
 obtain rfl:op=26:=hop
 dsimp only at *
 obtain⟨e1,-⟩:=mk_of (k:=26) (r:=2) (ts:=[2,2]) rfl hz
 obtain⟨x,y,rfl,q0,q1⟩:=map2 e1
 obtain⟨H0,g0⟩:=hg x (by simp)
 obtain⟨H1,g1⟩:=hg y (by simp)
 exact wk_or E n m x y H0 H1
theorem pk_27 (E:EnvP):PK E 27:=by
 intro hE t hop hn hb hg hz hf
 obtain⟨op,n,m,ps⟩:=t
 obtain rfl:op=27:=hop
 dsimp only at *
 have hz':alikeF 2 (ps.map (srt E))≠0:=hz
 obtain⟨h1,-,-,-⟩:=alike_of hz'
 obtain⟨x,y,rfl⟩:=len2 (by simpa using h1)
 exact wk_either E n m x y (hg x (by simp)).1 (hg y (by simp)).1
theorem pk_28 (E:EnvP):PK E 28:=by
 intro hE t hop hn hb hg hz hf
 obtain⟨op,n,m,ps⟩:=t
 obtain rfl:op=28:=hop
 dsimp only at *
 have hz':choiceF (ps.map (srt E))≠0:=hz
 obtain⟨a,h1,-⟩:=choice_of hz'
 obtain⟨x,y,z,rfl⟩:=len3 (by have:=congrArg List.length h1;simpa using this)
 exact wk_choice E n m x y z (hg x (by simp)).1 (hg y (by simp)).1 (hg z (by simp)).1
theorem pk_29 (E:EnvP):PK E 29:=by
 intro hE t hop hn hb hg hz hf
 obtain⟨op,n,m,ps⟩:=t
 obtain rfl:op=29:=hop
 dsimp only at *
 exact wk_hold E _ rfl
theorem pk_30 (E:EnvP):PK E 30:=by
 intro hE t hop hn hb hg hz hf
 obtain⟨op,n,m,ps⟩:=t
 obtain rfl:op=30:=hop
 dsimp only at *
 obtain⟨e1,-⟩:=mk_of (k:=30) (r:=3) (ts:=[1]) rfl hz
 obtain⟨x,rfl,q0⟩:=map1 e1
 obtain⟨H0,g0⟩:=hg x (by simp)
 exact wk_to E n m x H0 (fun W=>Count_any _ g0.1.1 (lt64 g0.1) W)
theorem pk_31 (E:EnvP):PK E 31:=by
 intro hE t hop hn hb hg hz hf
 obtain⟨op,n,m,ps⟩:=t
 obtain rfl:op=31:=hop
 dsimp only at *
 obtain⟨e1,-⟩:=mk_of (k:=31) (r:=3) (ts:=[1]) rfl hz
 obtain⟨x,rfl,q0⟩:=map1 e1
 obtain⟨H0,g0⟩:=hg x (by simp)
 exact wk_by E n m x H0 (fun W=>Count_any _ g0.1.1 (lt64 g0.1) W) (fun W=>Add_any _ _ hE.rep.1 (lt64 hE.rep) (count_64 _).1 (lt64 (count_64 _)) W)
theorem pk_32 (E:EnvP):PK E 32:=by
 intro hE t hop hn hb hg hz hf
 obtain⟨op,n,m,ps⟩:=t
 obtain rfl:op=32:=hop
 dsimp only at *
 have hz':ladF ⟨32,n,m,ps⟩ (ps.map (srt E))≠0:=hz
 have hl:LadOk ⟨32,n,m,ps⟩ (ps.map (srt E)):=(ladB_iff _ _).1 (by
  unfold ladF at hz'
  split at hz'
  ·assumption
  ·exact absurd rfl hz')
 have hlen:ps.length<=8192:=by
  have h1:=length_cnodesL ps
  rw[cnodes_eq] at hn
  have h2:1+cnodesL ps<=8192:=hn
  omega
 intro v tb b w f q hs ht hw
 cases hw
 have hT:telV E ⟨32,n,m,ps⟩=ladR ps (ps.map (telV E)):=by rw[telV_eq];rfl
 rw[hT]
 exact ladder_c E 32 n m ps (by have:=hl.1;simpa using this) (by have:=hl.2.1;simpa using this) hlen (fun x hx=>(hg x hx).1) v tb b w hs ht
theorem pk_all (E:EnvP):∀ k,1<=k->k<=32->PK E k:=op_cases (pk_1 E) (pk_2 E) (pk_3 E) (pk_4 E) (pk_5 E) (pk_6 E) (pk_7 E) (pk_8 E) (pk_9 E) (pk_10 E) (pk_11 E) (pk_12 E) (pk_13 E) (pk_14 E) (pk_15 E) (pk_16 E) (pk_17 E) (pk_18 E) (pk_19 E) (pk_20 E) (pk_21 E) (pk_22 E) (pk_23 E) (pk_24 E) (pk_25 E) (pk_26 E) (pk_27 E) (pk_28 E) (pk_29 E) (pk_30 E) (pk_31 E) (pk_32 E)
theorem tell_all (E:EnvP)(hE:EnvOk E)(t:Co):Lies t->cnodes t<=8192->srt E t≠0->TeC E t:=by
 induction t using Co.ind with
 | h t ih=>
   intro hl hn hz
   obtain⟨k,hop,h1,h2,hb,hp,hs⟩:=formed_of hz
   refine ctell_step E t k h1 h2 hop (pk_all E k h1 h2 hE t hop hn hb (fun x hx=>⟨ih x hx (hl.parts hx) ?_ (hp x hx),good_all E hE x (hl.parts hx) (hp x hx)⟩) (by rw[<-hs];exact hz) hl.fit)
   have:=cnodes_part hx
   omega
end Go.Proofs.YtepncopdjodfgaaGreatDoor
