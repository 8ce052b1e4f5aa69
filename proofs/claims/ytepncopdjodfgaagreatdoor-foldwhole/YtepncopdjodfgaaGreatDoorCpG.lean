import Derived.Test.YtepncopdjodfgaaGreatDoorMgG
namespace Go.Proofs.YtepncopdjodfgaaGreatDoor
open Go.RowKit
theorem csits0 (w:World)(k n m:Int)(hk:C64 k)(hn:C64 n)(hm:C64 m):CSits w ⟨k,n,m,[]⟩ (.slice none 0 0):=
 csits_iff.2 ⟨⟨hk,hn,hm⟩,none,0,rfl,Nat.le_refl _,by omega,.inl rfl⟩
theorem csits2 {w w':World}{g:Nat}{a b:Co}{va vb:Value}(k n m:Int)(hk:C64 k)(hn:C64 n)(hm:C64 m)(ha:CSits w a va)(hb:CSits w b vb)(hw:Below w.heap.size w w')(hx:Box w' g (coL a va++coL b vb)):CSits w' ⟨k,n,m,[a,b]⟩ (.slice (some ⟨g,0,none⟩) 2 2):=by
 refine csits_iff.2 ⟨⟨hk,hn,hm⟩,_,2,rfl,Nat.le_refl _,by omega,.inr ⟨g,0,rfl,hx.lt,fun i hi=>?_⟩⟩
 have hi':i=0\/i=1:=by simp at hi;omega
 rcases hi' with rfl | rfl
 ·exact⟨va,⟨hx.cell 0 _ rfl,hx.cell 1 _ rfl,hx.cell 2 _ rfl,hx.cell 3 _ rfl⟩,ha.next hw⟩
 ·exact⟨vb,⟨hx.cell 4 _ rfl,hx.cell 5 _ rfl,hx.cell 6 _ rfl,hx.cell 7 _ rfl⟩,hb.next hw⟩
abbrev env0 (r:Int):EnvP:=⟨r,[],[]⟩
theorem env0_at (w:World)(r:Int)(h:C64 r):EnvAt w (env0 r) (.slice none 0 0) (.slice none 0 0):=
 ⟨⟨h,fun i=>by simpa using And.intro zero_64 zero_64,by simp,by simp⟩,⟨none,0,rfl,.inl rfl⟩,⟨none,0,rfl,.inl rfl⟩⟩
abbrev coA:Co:=⟨14,0,0,[⟨3,0,0,[]⟩,⟨1,500000,0,[]⟩]⟩
abbrev coB:Co:=⟨17,0,0,[⟨1,1,0,[]⟩,⟨1,0,0,[]⟩]⟩
theorem soNum (wn cn ln n:Int):csort ladF wn cn ln ⟨1,n,0,[]⟩=1:=by rw[csort_eq];rfl
theorem soRep (wn cn ln:Int):csort ladF wn cn ln ⟨3,0,0,[]⟩=1:=by rw[csort_eq];rfl
theorem teNum (E:EnvP)(n:Int):telV E ⟨1,n,0,[]⟩=okR n:=by rw[telV_eq];rfl
theorem teRep (E:EnvP):telV E ⟨3,0,0,[]⟩=okR (held (E.rep*1000000)):=by rw[telV_eq];rfl
theorem evA:evV (srt (env0 3) coA) (telV (env0 3) coA)=.tuple #[.agg #[.int .i64 0,.int .i64 3500000],.int .i64 0]:=by
 have h1:srt (env0 3) coA=1:=by
  unfold srt
  rw[csort_eq]
  simp only[List.map_cons,List.map_nil,soRep,soNum]
  rfl
 have h2:telV (env0 3) coA=okR 3500000:=by
  have e:telV (env0 3) coA=ofTwoR (fun a b=>okR (bF 14 a b)) (telV (env0 3) ⟨3,0,0,[]⟩) (telV (env0 3) ⟨1,500000,0,[]⟩):=by rw[telV_eq];rfl
  rw[e,teRep,teNum]
  rfl
 rw[h1,h2]
 rfl
theorem cn0 (k n m:Int):cnodes ⟨k,n,m,[]⟩=1:=by rw[cnodes_eq];rfl
theorem cn2 (k n m:Int)(a b:Co):cnodes ⟨k,n,m,[a,b]⟩=1+(cnodes a+cnodes b):=by rw[cnodes_eq];show 1+cnodesL [a,b]=_;rw[cnodesL_cons,cnodesL_cons,cnodesL_nil];omega
theorem cnA:cnodes coA<=8192:=by rw[cn2,cn0,cn0];decide
theorem cnB:cnodes coB<=8192:=by rw[cn2,cn0,cn0];decide
theorem evB:evV (srt (env0 0) coB) (telV (env0 0) coB)=.tuple #[.agg #[.int .i64 2,.int .i64 0],.int .i64 0]:=by
 have h1:srt (env0 0) coB=1:=by
  unfold srt
  rw[csort_eq]
  simp only[List.map_cons,List.map_nil,soNum]
  rfl
 have h2:telV (env0 0) coB=noR 2:=by
  have e:telV (env0 0) coB=ofTwoR divR (telV (env0 0) ⟨1,1,0,[]⟩) (telV (env0 0) ⟨1,0,0,[]⟩):=by rw[telV_eq];rfl
  rw[e,teNum,teNum]
  rfl
 rw[h1,h2]
 rfl
end Go.Proofs.YtepncopdjodfgaaGreatDoor
