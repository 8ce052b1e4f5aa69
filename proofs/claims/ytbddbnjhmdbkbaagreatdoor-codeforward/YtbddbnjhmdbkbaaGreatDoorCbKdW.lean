import Derived.Test.YtbddbnjhmdbkbaaGreatDoorCbKdV
import Derived.Test.YtbddbnjhmdbkbaaGreatDoorCbKdX
namespace Go.Proofs.YtbddbnjhmdbkbaaGreatDoor
open Go.RowKit
def a9t:Prop:=∀ (q:Co->Co->Bool),(∀ a b,q a b=true↔a=b)->∀ (p:PlP) (v:PlV) (w:World),a3a w p v->a1M w->a4m w w.heap.size->p.wins.length*32<=140737488355328->p.crons.length*40<=140737488355328->C64 p.mets.length ->
 Calls Tryz.prog 18 #[plV p v] w fun e w'=>∃ u,e=.returned (.tuple #[pgV (a1y q p).1 u,.int .i64 (a1y q p).2])/\a4o w' w.heap.size (a1y q p).1 u/\Below w.heap.size w w'
def plA:PlP:=⟨[],⟨0,1,1,0,0⟩,[],[],0,[],⟨30,0,0,[⟨3,0,0,[]⟩]⟩⟩
theorem a6g:a1O plA=[⟨30,0,0,[⟨3,0,0,[]⟩]⟩,⟨3,0,0,[]⟩]:=by
 unfold a1O plA
 simp[a1W]
theorem a7q:soP plA plA.fin=3:=by
 unfold soP plA
 rw[a0X]
 simp only[List.map_cons,List.map_nil]
 rw[a0X]
 rfl
theorem a5t (q:Co->Co->Bool):a0O q plA=true:=by
 have h1:a2E plA=true:=by decide
 have h2:a4G plA=true:=by unfold a4G;rw[a6g];decide
 have h3:ruB plA.ru=true:=by decide
 have h4:a3i plA=true:=by decide
 have h5:a1N plA=true:=by unfold a1N;rw[a7q];decide
 have h6:a2v q plA=true:=by unfold a2v;rw[a6g];rfl
 unfold a0O
 rw[h1,h2,h3,h4,h5,h6]
 rfl
theorem a8A:a1g plA.gs plA.fin []=([(2,0),(30,0)],[]):=by
 show a0n ⟨30,0,0,[⟨3,0,0,[]⟩]⟩ []=_
 rw[a0S]
 simp only[List.map_cons,List.map_nil]
 rw[a0S]
 simp only[List.map_nil]
 rfl
theorem a8z:a1B plA=1:=by
 unfold a1B
 show max (a2w ⟨30,0,0,[⟨3,0,0,[]⟩]⟩) 0=1
 rw[a3G]
 unfold hP
 simp only[List.map_cons,List.map_nil]
 rw[a3G]
 rfl
theorem a7r (q:Co->Co->Bool):a1y q plA=(⟨0,⟨0,1,1,0,0⟩,[],[],[],0,1,[(2,0),(30,0)]⟩,0):=by
 have e:a0C plA=⟨0,⟨0,1,1,0,0⟩,[],[],[],0,1,[(2,0),(30,0)]⟩:=by
  unfold a0C
  rw[a8A,a8z]
  rfl
 unfold a1y
 rw[if_neg (by rw[a5t];decide),e,if_neg (by decide)]
set_option maxHeartbeats 2000000 in
set_option maxRecDepth 20000 in
theorem a7f (HEm:a9t)(w:World)(hF:a1M w)(hP:a4m w w.heap.size):Calls Tryz.prog 16 #[] w fun r w'=>r=.returned (.bool true)/\Below w.heap.size w w':=by
 classical
 obtain⟨q,hq⟩:∃ q:Co->Co->Bool,∀ a b,q a b=true↔a=b:=⟨fun a b=>decide (a=b),fun a b=>by simp⟩
 have HD:=a0a (fun W v (hW:Below w.heap.size w W) (hs:a3a W plA v)=>HEm q hq plA v W hs (hF.later hW) ⟨ZA hP.lt hW.size,ZA hP.lw hW.size,(hP.next hW).at'⟩ (by simp[plA]) (by simp[plA]) (by unfold C64;simp[plA]))
 simp only[a7r] at HD
 clear hF hP HEm
 go_enter Tryz.func16,Tryz.ntmps16
 go_wp2_with fail
 have X:=Box.new w [.int .i64 3,.int .i64 0,.int .i64 0,.slice none 0 0] 30
 have ba:=a0t w (.cells #[.int .i64 3,.int .i64 0,.int .i64 0,.slice none 0 0] 30)
 have z64:∀ n:Int,(0<=n/\n<=100)->C64 n:=fun n h=>by unfold C64;omega
 have hs:a3a (w.alloc (.cells #[.int .i64 3,.int .i64 0,.int .i64 0,.slice none 0 0] 30)) plA ⟨.slice none 0 0,.slice none 0 0,.slice none 0 0,.slice none 0 0,.slice (some ⟨w.heap.size,0,none⟩) 1 1⟩:=by
  refine⟨⟨z64 _ (by decide),z64 _ (by decide),z64 _ (by decide),z64 _ (by decide),z64 _ (by decide)⟩,z64 _ (by decide),(fun x hx=>by cases hx),(fun x hx=>by cases hx),⟨none,0,rfl,ZC _,by omega,.inl rfl⟩,⟨none,0,rfl,ZC _,by omega,.inl rfl⟩,⟨none,0,rfl,ZC _,by omega,.inl rfl⟩,⟨none,0,rfl,ZC _,by omega,.inl rfl⟩,?_⟩
  refine a0P.2 ⟨⟨z64 _ (by decide),z64 _ (by decide),z64 _ (by decide)⟩,_,1,rfl,by decide,by decide,.inr ⟨w.heap.size,0,rfl,X.lt,fun i hi=>?_⟩⟩
  have hi0:i=0:=by simp[plA] at hi;omega
  subst hi0
  have hl:a0p (w.alloc (.cells #[.int .i64 3,.int .i64 0,.int .i64 0,.slice none 0 0] 30)) ⟨3,0,0,[]⟩ (.slice none 0 0):=a0P.2 ⟨⟨z64 3 (by decide),z64 0 (by decide),z64 0 (by decide)⟩,none,0,rfl,ZC _,by omega,.inl rfl⟩
  exact⟨.slice none 0 0,⟨X.cell 0 _ rfl,X.cell 1 _ rfl,X.cell 2 _ rfl,X.cell 3 _ rfl⟩,hl⟩
 have HD2:=HD.out _ _ ba hs
 clear HD
 refine ZF HD2 ?_
 rintro e w1 ⟨u,rfl,pu,b1⟩
 have B1:=a0a (a0c ba b1 ba.size)
 obtain⟨ak,ck,e1⟩:=a0k pu.k
 obtain⟨aw,cw,e2⟩:=a0k pu.wi
 obtain⟨ar,cr,e3⟩:=a0k pu.cr
 obtain⟨vk,vw,vr,vc⟩:=u
 simp only at e1 e2 e3
 subst e1 e2 e3
 obtain⟨g,cc,rfl,BX⟩:∃ g cc,vc=.slice (some ⟨g,0,none⟩) 2 cc/\Box w1 g [.int .i64 2,.int .i64 0,.int .i64 30,.int .i64 0]:=by
  obtain⟨-,⟨h2,h3⟩ | ⟨g,cap,cur,h2,h3,h4,h5,h6,h7,h8⟩⟩:=pu.c
  ·cases h3
  ·exact⟨g,cap,h2,(Box.ofBlock h4).part (by have h9:=List.take_prefix (2*2) cur.toList;have h8':cur.toList.take (2*2)=_:=h8;rw[h8'] at h9;exact h9)⟩
 have HBX:=a0a BX
 clear X ba hs pu b1 BX
 dsimp only[List.length_nil]
 clear HD2
 obtain⟨c0,c1,c2,c3⟩:=Box.c4 HBX.out
 have cl:=HBX.out.lt
 go_wp2_with fail
 go_ret
 exact⟨rfl,B1.out.alloc B1.out.size _⟩
end Go.Proofs.YtbddbnjhmdbkbaaGreatDoor
