import Derived.Test.YtecdfnpbcabdnaaGreatDoorMiF
import Derived.Test.YtecdfnpbcabdnaaGreatDoorPsB
import Derived.Test.YtecdfnpbcabdnaaGreatDoorMgX
namespace Go.Proofs.YtecdfnpbcabdnaaGreatDoor
open Go.RowKit Go.Lib
theorem errP {w w':World}(h:ErrT w)(k:Below w.heap.size w w'):ErrT w':=(k.cell (p:=⟨0,0,none⟩) (World.block_lt_of_cell? w _ h)).trans h
def ansP (s:ByteArray):(ByteArray×List It)×Nat×Int:=match polS s with
 | .ok t=>(t,0,0)
 | .error f=>((⟨#[]⟩,[]),f.1,f.2)
theorem IAt.none {z:Nat}{w:World}:IAt z w (.slice none 0 0) []:=⟨_,_,rfl,Nat.zero_le _,by decide,.inl rfl⟩
theorem poP_ans {s:ByteArray}{w:World}{e:Ending}{w':World}(h:PoP s w e w'):Below w.heap.size w w'/\∃ u,e=.returned (.tuple #[.agg #[.string (ansP s).1.1,u],.int .i64 ((ansP s).2.1:Nat),.int .i64 (ansP s).2.2])/\IAt s.size w' u (ansP s).1.2:=by
 obtain⟨hb,h⟩:=h
 refine⟨hb,?_⟩
 unfold ansP
 rcases hx:polS s with f | t
 ·rw[hx] at h
  exact⟨.slice none 0 0,h,IAt.none⟩
 ·rw[hx] at h
  obtain⟨u,h1,⟨l,h2,h3⟩,_⟩:=h
  refine⟨u,h1,?_⟩
  show IAt s.size w' u t.2
  rw[h2]
  exact iatP_of h3
theorem qPol_c (s:ByteArray)(w:World):Calls Tryz.prog 8 #[.string s] w (PoP s w):=qPolTop_c (fun _ _ _ _ _ hz hN=>qActD_c hz hN 64 0 rfl) s w
set_option maxHeartbeats 4000000 in
set_option maxRecDepth 20000 in
theorem parsePolicies_c (s:ByteArray)(w:World)(hT:TabsAt w)(hE:ErrT w):Calls Tryz.prog 3 #[.string s] w fun e w'=>e=.returned (.bool true)/\Below w.heap.size w w':=by
 have HA:=hid2 (awake13_c w hT hE)
 have HX:Hid (∀ W,Below w.heap.size w W->Calls Tryz.prog 7 #[.string s] W fun e w'=>Below W.heap.size W w'/\∃ u,e=.returned (.tuple #[.agg #[.string (ansP s).1.1,u],.int .i64 ((ansP s).2.1:Nat),.int .i64 (ansP s).2.2])/\IAt s.size w' u (ansP s).1.2):=fun W k=>(polF_c s W (hT.next k) (errP hE k)).mono fun e w' h=>poP_ans h
 have HD:Hid (∀ W,Calls Tryz.prog 8 #[.string s] W fun e w'=>Below W.heap.size W w'/\∃ u,e=.returned (.tuple #[.agg #[.string (ansP s).1.1,u],.int .i64 ((ansP s).2.1:Nat),.int .i64 (ansP s).2.2])/\IAt s.size w' u (ansP s).1.2):=fun W=>(qPol_c s W).mono fun e w' h=>poP_ans h
 have HP:=hid2 (placedPol_c (z:=s.size) (ansP s).1.1 (ansP s).1.2)
 generalize (ansP s).1.1=nm at *
 generalize (ansP s).1.2=l at *
 generalize (ansP s).2.1=a at *
 generalize (ansP s).2.2=k at *
 clear hT hE
 go_enter Tryz.func3,Tryz.ntmps3
 go_wp2_with fail
 refine Calls.mono HA.out ?_
 rintro e w1 ⟨rfl,b1⟩
 go_wp2_with fail
 refine Calls.mono (HX.out _ b1) ?_
 rintro e w2 ⟨b2,u,rfl,s2⟩
 obtain⟨ad,cp,rfl,hcp1,hcp2⟩:=s2.shape
 have B2:=hid2 (below_on b1 b2 b1.size)
 have S2:=hid2 s2
 clear b1 b2 s2 HA HX
 have ka:=hid2 ((Below.refl w2.heap.size w2).alloc (Nat.le_refl _) (.cells ([.string nm,.slice ad l.length cp]:List Value).toArray 25))
 have L3:=hid2 (Box.new w2 [.string nm,.slice ad l.length cp] 25)
 have S3:=hid2 (S2.out.next ka.out)
 have B3:=hid2 (below_on B2.out ka.out B2.out.size)
 go_wp2_with fail
 refine Calls.mono (HD.out _) ?_
 rintro e w4 ⟨b4,u',rfl,s4⟩
 obtain⟨ad',cp',rfl,hcp1',hcp2'⟩:=s4.shape
 have L4:=hid2 (L3.out.next b4)
 have S4:=hid2 (S3.out.next b4)
 have B4:=hid2 (below_on B3.out b4 B3.out.size)
 have T4:=hid2 s4
 clear b4 s4 L3 S3 B3 S2 B2 ka HD
 have ka:=hid2 ((Below.refl w4.heap.size w4).alloc (Nat.le_refl _) (.cells ([.string nm,.slice ad' l.length cp']:List Value).toArray 25))
 have S5:=hid2 (S4.out.next ka.out)
 have T5:=hid2 (T4.out.next ka.out)
 have B5:=hid2 (below_on B4.out ka.out B4.out.size)
 have ll4:=L4.out.lt
 obtain⟨l0,l1,_,_⟩:=L4.out.duo
 go_wp2_with fail
 refine Calls.mono (HP.out _ _ _ S5.out T5.out) ?_
 rintro e w6 ⟨rfl,b6⟩
 have B6:=hid2 (below_on B5.out b6 B5.out.size)
 clear b6
 go_wp2_with fail
 go_ret
 exact⟨rfl,B6.out⟩
end Go.Proofs.YtecdfnpbcabdnaaGreatDoor
