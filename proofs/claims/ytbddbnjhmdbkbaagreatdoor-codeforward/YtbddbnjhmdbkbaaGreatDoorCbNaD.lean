import Derived.Test.YtbddbnjhmdbkbaaGreatDoorCbMjB
import Derived.Deep.AppendLies
import Derived.Test.YtbddbnjhmdbkbaaGreatDoorCbNaC
import Derived.Test.YtbddbnjhmdbkbaaGreatDoorCbKdF
namespace Go.Proofs.YtbddbnjhmdbkbaaGreatDoor
open Go.RowKit
def CSP (ok:Nat->Prop)(w:World):Co->Value->Prop
 | ⟨k,n,m,ps⟩,v=>C64 k/\C64 n/\C64 m/\∃ ad cap,v=.slice ad ps.length cap/\ps.length<=cap/\cap<=9223372036854775807 /\
     (ps.length=0\/∃ b off,ad=some ⟨b,off,none⟩/\b<w.heap.size/\ok b/\∀ i (h:i<ps.length),∃ u,a4R w b (off+i*4) ps[i] u /\
       (have:SizeOf.sizeOf ps[i]<SizeOf.sizeOf ps:=List.sizeOf_lt_of_mem (List.getElem_mem h);CSP ok w ps[i] u))
def CAP (ok:Nat->Prop)(w:World)(v:Value)(ps:List Co):Prop:=∃ ad cap,v=.slice ad ps.length cap/\ps.length<=cap/\cap<=9223372036854775807 /\
 (ps.length=0\/∃ b off,ad=some ⟨b,off,none⟩/\b<w.heap.size/\ok b/\∀ i (h:i<ps.length),∃ u,a4R w b (off+i*4) ps[i] u/\CSP ok w ps[i] u)
theorem a2V {ok:Nat->Prop}{w:World}{t:Co}{v:Value}:CSP ok w t v↔a9U t/\CAP ok w v t.parts:=by
 cases t
 rw[CSP]
 exact⟨fun ⟨a,b,c,f⟩=>⟨⟨a,b,c⟩,f⟩,fun ⟨⟨a,b,c⟩,f⟩=>⟨a,b,c,f⟩⟩
theorem CSP.parts {ok:Nat->Prop}{w:World}{t:Co}{v:Value}(h:CSP ok w t v):CAP ok w v t.parts:=(a2V.1 h).2
theorem CSP.ofSits {w:World}(t:Co):∀ v,a0p w t v->CSP (fun _=>True) w t v:=by
 induction t using Co.ind with
 | h t ih=>
   intro v h
   obtain⟨hf,ad,cap,hv,hl,hc,hp⟩:=a0P.1 h
   refine a2V.2 ⟨hf,ad,cap,hv,hl,hc,?_⟩
   rcases hp with hp | ⟨b,off,ha,hb,hp⟩
   ·exact .inl hp
   ·refine .inr ⟨b,off,ha,hb,trivial,fun i hi=>?_⟩
    obtain⟨u,h6,hu⟩:=hp i hi
    exact⟨u,h6,ih _ (List.getElem_mem hi) u hu⟩
theorem CSP.keep {ok ok':Nat->Prop}{w w':World}(hs:w.heap.size<=w'.heap.size)(hk:∀ b,b<w.heap.size->ok b->ok' b/\∀ j,w'.cell? ⟨b,j,none⟩=w.cell? ⟨b,j,none⟩)(t:Co):∀ v,CSP ok w t v->CSP ok' w' t v:=by
 induction t using Co.ind with
 | h t ih=>
   intro v h
   obtain⟨hf,ad,cap,hv,hl,hc,hp⟩:=a2V.1 h
   refine a2V.2 ⟨hf,ad,cap,hv,hl,hc,?_⟩
   rcases hp with hp | ⟨b,off,ha,hb,ho,hp⟩
   ·exact .inl hp
   ·refine .inr ⟨b,off,ha,by omega,(hk b hb ho).1,fun i hi=>?_⟩
    obtain⟨u,h6,hu⟩:=hp i hi
    exact⟨u,h6.keep (fun j=>(hk b hb ho).2 j),ih _ (List.getElem_mem hi) u hu⟩
theorem CSP.next {ok:Nat->Prop}{w w':World}{t:Co}{v:Value}(h:CSP ok w t v)(hb:Below w.heap.size w w'):CSP ok w' t v:=
 CSP.keep hb.size (fun b hb1 ho=>⟨ho,fun j=>hb.cell (p:=⟨b,j,none⟩) hb1⟩) t v h
theorem CSP.weak {ok ok':Nat->Prop}{w:World}{t:Co}{v:Value}(h:CSP ok w t v)(hk:∀ b,b<w.heap.size->ok b->ok' b):CSP ok' w t v:=
 CSP.keep (ZC _) (fun b hb1 ho=>⟨hk b hb1 ho,fun _=>rfl⟩) t v h
theorem CSP.leaf {ok:Nat->Prop}(w:World){k n m:Int}(h:a9U ⟨k,n,m,[]⟩):CSP ok w ⟨k,n,m,[]⟩ (.slice none 0 0):=
 a2V.2 ⟨h,none,0,rfl,ZC _,by omega,.inl rfl⟩
theorem CAP.open {ok:Nat->Prop}{w:World}{v:Value}{ps:List Co}(h:CAP ok w v ps)(hn:0<ps.length):∃ b off cap,v=.slice (some ⟨b,off,none⟩) ps.length cap/\ps.length<=cap/\cap<=9223372036854775807/\b<w.heap.size/\ok b /\
 ∀ i (h:i<ps.length),∃ u,a4R w b (off+i*4) ps[i] u/\CSP ok w ps[i] u:=by
 obtain⟨ad,cap,hv,hl,hc,hp⟩:=h
 rcases hp with hp | ⟨b,off,rfl,hlt,ho,hp⟩
 ·omega
 ·exact⟨b,off,cap,hv,hl,hc,hlt,ho,hp⟩
theorem CAP.shape {ok:Nat->Prop}{w:World}{v:Value}{ps:List Co}(h:CAP ok w v ps):∃ ad cap,v=.slice ad ps.length cap/\ps.length<=cap/\cap<=9223372036854775807:=by
 obtain⟨ad,cap,hv,hl,hc,_⟩:=h
 exact⟨ad,cap,hv,hl,hc⟩
structure Wk (bb:Nat)(F:List Nat)(w0:World)(C:List Ins)(K:List Int)(vc vk:Value)(w:World):Prop where
 bd:Bd w bb C K vc vk
 turn:a0E F w0 w
 foot:∀ i,i∈foot bb vc vk->i∈F\/w0.heap.size<=i
structure Opn (bb:Nat)(w0:World)(vc vk:Value)(w:World)(j:Nat)(more:Int)(at':Nat):Prop where
 jm:a8p w j bb more at'
 ge:w0.heap.size<=j
 lt:j+3<=w.heap.size
 far:∀ i,i∈foot bb vc vk->i<j\/j+3<=i
theorem Wk.start {w:World}{bb:Nat}{C:List Ins}{K:List Int}{vc vk:Value}(h:Bd w bb C K vc vk):Wk bb (Go.Proofs.YtbddbnjhmdbkbaaGreatDoor.foot bb vc vk) w C K vc vk w:=⟨h,a0E.refl _ _,fun _ hi=>.inl hi⟩
theorem Wk.done {w0 w:World}{bb:Nat}{F:List Nat}{C:List Ins}{K:List Int}{vc vk:Value}(h:Wk bb F w0 C K vc vk w):a0K bb F w0 C K w:=⟨vc,vk,h.bd,h.turn,h.foot⟩
theorem Wk.next {w0 w w':World}{bb:Nat}{F:List Nat}{C:List Ins}{K:List Int}{vc vk:Value}(h:Wk bb F w0 C K vc vk w)(k:Below w.heap.size w w'):Wk bb F w0 C K vc vk w':=⟨h.bd.next k,h.turn.andBelow k,h.foot⟩
theorem Opn.next {w0 w w':World}{bb:Nat}{vc vk:Value}{j at':Nat}{more:Int}(h:Opn bb w0 vc vk w j more at')(k:Below w.heap.size w w'):Opn bb w0 vc vk w' j more at':=
 ⟨h.jm.turn (S:=[]) (a0E.of_below k) (fun _ hm=>by cases hm),h.ge,ZD h.lt k.size,h.far⟩
def a9X (bb:Nat)(w0:World)(vc vk:Value)(w:World)(vc' vk':Value)(w':World):Prop:=∀ j more at',Opn bb w0 vc vk w j more at'->Opn bb w0 vc' vk' w' j more at'
theorem Wk.went {w0 w w':World}{bb:Nat}{F:List Nat}{C C':List Ins}{K K':List Int}{vc vk:Value}(h:Wk bb F w0 C K vc vk w)(g:a0K bb (Go.Proofs.YtbddbnjhmdbkbaaGreatDoor.foot bb vc vk) w C' K' w'):∃ vc' vk',Wk bb F w0 C' K' vc' vk' w'/\a9X bb w0 vc vk w vc' vk' w':=by
 obtain⟨vc',vk',q1,q2,q3⟩:=g
 refine⟨vc',vk',⟨q1,h.turn.trans q2 h.foot,fun i hi=>?_⟩,fun j more at' o=>⟨o.jm.turn q2 o.far,o.ge,ZD o.lt q2.size,fun i hi=>?_⟩⟩
 ·rcases q3 i hi with hm | hm
  ·exact h.foot i hm
  ·exact .inr (ZD h.turn.size hm)
 ·rcases q3 i hi with hm | hm
  ·exact o.far i hm
  ·exact .inr (ZD o.lt hm)
theorem Wk.jumped {w0 w w':World}{bb:Nat}{F:List Nat}{C C':List Ins}{K K':List Int}{vc vk:Value}{more:Int}{at':Nat}{e:Ending}(h:Wk bb F w0 C K vc vk w)(g:a8o bb (Go.Proofs.YtbddbnjhmdbkbaaGreatDoor.foot bb vc vk) w C' K' more at' e w'):e=.returned (jmV w.heap.size)/\∃ vc' vk',Wk bb F w0 C' K' vc' vk' w'/\a9X bb w0 vc vk w vc' vk' w'/\Opn bb w0 vc' vk' w' w.heap.size more at':=by
 obtain⟨he,hj,vc',vk',q1,q2,q3⟩:=g
 have hb:=h.bd.ge
 refine⟨he,vc',vk',⟨q1,h.turn.trans q2 h.foot,fun i hi=>?_⟩,fun j more at' o=>⟨o.jm.turn q2 o.far,o.ge,ZD o.lt q2.size,fun i hi=>?_⟩,hj,h.turn.size,?_,fun i hi=>?_⟩
 ·rcases q3 i hi with hm | hm
  ·exact h.foot i hm
  ·have:=h.turn.size
   exact .inr (by omega)
 ·rcases q3 i hi with hm | hm
  ·exact o.far i hm
  ·have:=o.lt
   exact .inr (by omega)
 ·have:=hj.a.lt
  omega
 ·rcases q3 i hi with hm | hm
  ·exact .inl (hb i hm).2
  ·exact .inr hm
theorem Wk.core {w0 w:World}{bb:Nat}{F:List Nat}{C:List Ins}{K:List Int}{vc vk:Value}(h:Wk bb F w0 C K vc vk w)(hF:∀ i,i∈F->bb<=i){t:Co}{v:Value}(s:CSP (fun b=>b<bb) w0 t v):CSP (fun b=>b<bb) w t v:=
 CSP.keep h.turn.size (fun b hb ho=>⟨ho,fun j=>a1V h.turn hb (fun hm=>by have:=hF b hm;omega)⟩) t v s
def poT:List Value:=[0,0,0,2,3,4,5,0,6,7,8,9,10,0,12,13,14,15,16,17,18,19,20,21,22,0,0,0,0,29,30,31].map fun x=>Value.int .i64 x
structure a4m (w:World)(bb:Nat):Prop where
 lt:0<bb
 lw:0<w.heap.size
 at':∀ k v,poT[k]? = some v->w.cell? ⟨0,k,none⟩=some v
theorem a4m.next {w w':World}{bb:Nat}(h:a4m w bb)(k:Below w.heap.size w w'):a4m w' bb:=⟨h.lt,ZA h.lw k.size,fun j v hv=>(k.cell (p:=⟨0,j,none⟩) h.lw).trans (h.at' j v hv)⟩
theorem Wk.po {w0 w:World}{bb:Nat}{F:List Nat}{C:List Ins}{K:List Int}{vc vk:Value}(h:Wk bb F w0 C K vc vk w)(hF:∀ i,i∈F->bb<=i)(s:a4m w0 bb):a4m w bb:=
 ⟨s.lt,ZA s.lw h.turn.size,fun j v hv=>(a1V h.turn s.lw (fun hm=>by have:=hF _ hm;have:=s.lt;omega)).trans (s.at' j v hv)⟩
def a1Z (t:Co):Prop:=∀ (v:Value) (bb:Nat) (C:List Ins) (K:List Int) (vc vk:Value) (w:World),CSP (fun b=>b<bb) w t v->Bd w bb C K vc vk->a4m w bb->sM t≠0->C.length+8*a0b t<=900000->K.length+2*a0b t<=900000->Calls Tryz.prog 66 #[.pointer (some ⟨bb,0,none⟩),coV t v] w fun e w'=>e=.returned (.tuple #[])/\a0K bb (foot bb vc vk) w (cat C (a0n t K).1) (a0n t K).2 w'
theorem a4g (C1 A B:List Ins)(op over:Int)(h1:a3F op=true)(h2:a3F over=true):
 ((cat ((cat (C1++[(op,0)]) A++[(over,0)]).set C1.length (op,(0:Int)+((cat (C1++[(op,0)]) A++[(over,0)]).length:Int))) B).set (cat (C1++[(op,0)]) A).length (over,(0:Int)+((cat ((cat (C1++[(op,0)]) A++[(over,0)]).set C1.length (op,(0:Int)+((cat (C1++[(op,0)]) A++[(over,0)]).length:Int))) B).length:Int)))=cat C1 (cat (cat (cat [(op,((A.length+2:Nat):Int))] A) [(over,((1+B.length:Nat):Int))]) B):=by
 have s1:∀ (X:List Ins) (n:Int),shI X.length (op,n)=(op,n+X.length):=fun X n=>by unfold shI;rw[if_pos h1]
 have s2:∀ (d:Nat) (n:Int),shI d (over,n)=(over,n+d):=fun d n=>by unfold shI;rw[if_pos h2]
 unfold cat
 simp only[List.length_append,List.length_set,List.length_map,List.length_singleton,List.map_append,List.map_cons,List.map_nil,List.append_assoc,a4u]
 rw[List.set_append_right _ _ (ZC _),Nat.sub_self]
 rw[show ∀ (x y:Ins) (l:List Ins),([x]++l).set 0 y=y::l from fun _ _ _=>rfl]
 rw[s1 C1]
 simp only[s2]
 rw[List.append_assoc,List.set_append_right _ _ (by omega)]
 rw[show C1.length+(1+A.length)-C1.length=(A.map (shI (C1.length+1))).length+1 by rw[List.length_map];omega]
 rw[List.cons_append,List.set_cons_succ,List.append_assoc,List.set_append_right _ _ (ZC _),Nat.sub_self]
 rw[show ∀ (x y:Ins) (l:List Ins),([x]++l).set 0 y=y::l from fun _ _ _=>rfl]
 simp only[List.cons_append,List.nil_append]
 congr 2
 ·refine Prod.ext rfl ?_
  simp only[];omega
 ·congr 1
  congr 1
  ·refine Prod.ext rfl ?_
   simp only[];omega
theorem a2J (C1 A E:List Ins)(op more:Int)(h1:a3F op=true)(hE:∀ x,x∈E->a3F x.1=false):
 (cat (C1++[(op,0)]) A++E).set C1.length (op,more+((cat (C1++[(op,0)]) A++E).length:Int))=cat C1 (cat (cat [(op,more+(((A.length+1+E.length:Nat)):Int))] A) E):=by
 have s1:∀ (X:List Ins) (n:Int),shI X.length (op,n)=(op,n+X.length):=fun X n=>by unfold shI;rw[if_pos h1]
 have s2:∀ d:Nat,E.map (shI d)=E:=fun d=>by
  conv=>rhs;rw[<-List.map_id E]
  exact List.map_congr_left (fun x hx=>by unfold shI;rw[if_neg (by rw[hE x hx];decide)];rfl)
 unfold cat
 simp only[List.length_append,List.length_map,List.length_singleton,List.map_append,List.map_cons,List.map_nil,List.append_assoc,a4u,s2]
 rw[List.set_append_right _ _ (ZC _),Nat.sub_self]
 rw[show ∀ (x y:Ins) (l:List Ins),([x]++l).set 0 y=y::l from fun _ _ _=>rfl]
 rw[s1 C1]
 simp only[List.cons_append,List.nil_append]
 congr 2
 refine Prod.ext rfl ?_
 simp only[];omega
theorem a2a (L:List Ins)(x:Ins):(L++[x])[L.length]? = some x:=by simp
theorem a2Y {L A:List Ins}{i:Nat}{x:Ins}(h:L[i]? = some x):(cat L A)[i]? = some x:=by
 unfold cat
 rw[List.getElem?_append_left (List.getElem?_eq_some_iff.1 h).1]
 exact h
theorem a5o {L A:List Ins}{i:Nat}{x:Ins}(h:L[i]? = some x):(L++A)[i]? = some x:=by
 rw[List.getElem?_append_left (List.getElem?_eq_some_iff.1 h).1]
 exact h
theorem a1T {n:Nat}(h:n<=2000000):C64 (0+(n:Int)):=by unfold C64;omega
set_option maxHeartbeats 2000000 in
set_option maxRecDepth 20000 in
theorem a3Q (x y z:Co)(hx:a1Z x)(hy:a1Z y)(hz:a1Z z)(vx vy vz:Value)(bb:Nat)(C:List Ins)(K:List Int)(vc vk:Value)(w:World)
 (sx:CSP (fun b=>b<bb) w x vx) (sy:CSP (fun b=>b<bb) w y vy) (sz:CSP (fun b=>b<bb) w z vz) (h:Bd w bb C K vc vk) (hp:a4m w bb) (zx:sM x≠0) (zy:sM y≠0) (zz:sM z≠0)
 (hC:C.length+8*(a0b x+a0b y+a0b z)<=900000) (hK:K.length+2*(a0b x+a0b y+a0b z)<=900000) :
 Calls Tryz.prog 122 #[.pointer (some ⟨bb,0,none⟩),coV x vx,coV y vy,coV z vz] w fun e w'=>e=.returned (.tuple #[])/\a0K bb (foot bb vc vk) w (cat C (a0s (a0n x) (a1s 24 23 (a0n y) (a0n z)) K).1) (a0s (a0n x) (a1s 24 23 (a0n y) (a0n z)) K).2 w':=by
 obtain⟨ax,cx,rfl,-,-⟩:=sx.parts.shape
 obtain⟨ay,cy,rfl,-,-⟩:=sy.parts.shape
 obtain⟨az,cz,rfl,-,-⟩:=sz.parts.shape
 obtain⟨Y0,Y1,Y2,YB⟩:=a2D w 30 30 30 (coL x (.slice ax x.parts.length cx)) (coL y (.slice ay y.parts.length cy)) (coL z (.slice az z.parts.length cz))
 have HY:=a0a (And.intro Y1 Y2)
 have HB:=a0a YB
 have HF:Hid (∀ i,i∈foot bb vc vk->bb<=i/\i<w.heap.size):=a0a h.ge
 have H0:=a0a (Wk.start (h.next YB))
 have HS:=a0a (And.intro (sx.next YB) (And.intro (sy.next YB) (sz.next YB)))
 have HP:=a0a (hp.next YB)
 have HZ:=a0a (And.intro zx (And.intro zy zz))
 have HN:=a0a (And.intro hC (And.intro hK (And.intro (a0m x) (And.intro (a0m y) (a0m z)))))
 have HX:=a0a (And.intro hx (And.intro hy hz))
 obtain⟨A,K1,hA⟩:∃ A K1,Hid (a0n x K=(A,K1)):=⟨_,_,a0a rfl⟩
 obtain⟨B,K2,hB⟩:∃ B K2,Hid (a0n y K1=(B,K2)):=⟨_,_,a0a rfl⟩
 obtain⟨D,K3,hD⟩:∃ D K3,Hid (a0n z K2=(D,K3)):=⟨_,_,a0a rfl⟩
 have HL:Hid (A.length<=6*a0b x/\K1.length<=K.length+2*a0b x/\B.length<=6*a0b y/\K2.length<=K1.length+2*a0b y/\D.length<=6*a0b z):=a0a (by
  have h1:=a1E x K
  have h2:=a1E y K1
  have h3:=a1E z K2
  rw[hA.out] at h1
  rw[hB.out] at h2
  rw[hD.out] at h3
  exact⟨h1.1,h1.2,h2.1,h2.2,h3.1⟩)
 have HE:Hid (a0s (a0n x) (a1s 24 23 (a0n y) (a0n z)) K=(cat A (cat (cat (cat [(24,((B.length+2:Nat):Int))] B) [(23,((1+D.length:Nat):Int))]) D),K3)):=a0a (by
  unfold a0s a1s
  simp only[hA.out,hB.out,hD.out])
 rw[HE.out]
 clear hx hy hz sx sy sz h hp zx zy zz hC hK Y0 Y1 Y2 YB HE
 go_enter Tryz.func122,Tryz.ntmps122
 go_wp2_with fail
 generalize hW:(((w.alloc _).alloc _).alloc _)=W at *
 clear hW
 have HNF:Hid (∀ i,w.heap.size<=i->i∉foot bb vc vk):=a0a (fun i hi hm=>by have:=(HF.out i hm).2;omega)
 refine ZF (HX.out.1 _ bb C K vc vk W HS.out.1 H0.out.bd HP.out HZ.out.1 (by have:=HN.out;have:=a0m y;have:=a0m z;omega) (by have:=HN.out;omega)) ?_
 rintro e w1 ⟨rfl,g1⟩
 rw[hA.out] at g1
 obtain⟨vc1,vk1,k1,-⟩:=H0.out.went g1
 have H1:=a0a k1
 clear g1 k1
 go_wp2_with fail
 refine ZF (a2Q bb (cat C A) K1 vc1 vk1 24 0 w1 H1.out.bd (by rw[a0h];have:=HN.out;have:=HL.out;omega)) ?_
 intro e w2 g2
 obtain⟨rfl,vc2,vk2,k2,-,o2⟩:=H1.out.jumped g2
 have H2:=a0a k2
 have O2:=a0a o2
 have b2:=HY.out.1.turn k2.turn (HNF.out _ (by omega))
 obtain⟨c0,c1,c2,c3⟩:=Box.c4 b2
 have cl:=b2.lt
 clear g2 k2 o2 b2
 go_wp2_with fail
 refine ZF (HX.out.2.1 _ bb (cat C A++[(24,0)]) K1 vc2 vk2 w2 (H2.out.core (fun i hi=>(HF.out i hi).1) HS.out.2.1) H2.out.bd (H2.out.po (fun i hi=>(HF.out i hi).1) HP.out) HZ.out.2.1 (by rw[List.length_append,a0h,List.length_singleton];have:=HN.out;have:=HL.out;have:=a0m z;omega) (by have:=HN.out;have:=HL.out;omega)) ?_
 rintro e w3 ⟨rfl,g3⟩
 rw[hB.out] at g3
 obtain⟨vc3,vk3,k3,s3⟩:=H2.out.went g3
 have H3:=a0a k3
 have O3:=a0a (s3 _ _ _ O2.out)
 clear g3 k3 s3 c0 c1 c2 c3 cl O2
 go_wp2_with fail
 refine ZF (a2Q bb (cat (cat C A++[(24,0)]) B) K2 vc3 vk3 23 0 w3 H3.out.bd (by rw[a0h,List.length_append,a0h,List.length_singleton];have:=HN.out;have:=HL.out;omega)) ?_
 intro e w4 g4
 obtain⟨rfl,vc4,vk4,k4,s4,o4⟩:=H3.out.jumped g4
 have H4:=a0a k4
 have P4:=a0a (And.intro (s4 _ _ _ O3.out) o4)
 clear g4 k4 s4 o4 O3
 go_wp2_with fail
 refine ZF (a2T w1.heap.size bb (cat (cat C A++[(24,0)]) B++[(23,0)]) K2 vc4 vk4 0 (cat C A).length (24,0) w4 H4.out.bd P4.out.1.jm (a5o (a2Y (a2a _ _))) (a1T (by simp only[a0h,List.length_append,List.length_singleton];have:=HN.out;have:=HL.out;omega)) P4.out.1.far) ?_
 rintro e w5 ⟨rfl,g5⟩
 obtain⟨vc5,vk5,k5,s5⟩:=H4.out.went g5
 have H5:=a0a k5
 have O5:=a0a (s5 _ _ _ P4.out.2)
 have b5:=HY.out.2.turn k5.turn (HNF.out _ (by omega))
 obtain⟨c0,c1,c2,c3⟩:=Box.c4 b5
 have cl:=b5.lt
 clear g5 k5 s5 b5 P4
 go_wp2_with fail
 refine ZF (HX.out.2.2 _ bb _ K2 vc5 vk5 w5 (H5.out.core (fun i hi=>(HF.out i hi).1) HS.out.2.2) H5.out.bd (H5.out.po (fun i hi=>(HF.out i hi).1) HP.out) HZ.out.2.2 (by simp only[List.length_set,a0h,List.length_append,List.length_singleton];have:=HN.out;have:=HL.out;omega) (by have:=HN.out;have:=HL.out;omega)) ?_
 rintro e w6 ⟨rfl,g6⟩
 rw[hD.out] at g6
 obtain⟨vc6,vk6,k6,s6⟩:=H5.out.went g6
 have H6:=a0a k6
 have O6:=a0a (s6 _ _ _ O5.out)
 clear g6 k6 s6 c0 c1 c2 c3 cl O5
 go_wp2_with fail
 refine ZF (a2T w3.heap.size bb _ K3 vc6 vk6 0 (cat (cat C A++[(24,0)]) B).length (23,0) w6 H6.out.bd O6.out.jm (a2Y (by rw[List.getElem?_set_ne (by simp only[a0h,List.length_append,List.length_singleton];omega)];exact a2a _ _)) (a1T (by simp only[List.length_set,a0h,List.length_append,List.length_singleton];have:=HN.out;have:=HL.out;omega)) O6.out.far) ?_
 rintro e w7 ⟨rfl,g7⟩
 obtain⟨vc7,vk7,k7,-⟩:=H6.out.went g7
 have H7:=a0a k7
 clear g7 k7 O6
 go_wp2_with fail
 refine bodyPost_end (v:=.tuple #[]) (by simp[results,Tryz.results122,go_sem, *]) rfl ?_
 refine⟨rfl,?_⟩
 have g:=a0K.alloc HB.out H7.out.done HB.out.size
 rw[a4g (cat C A) B D 24 23 rfl rfl,a1i] at g
 exact g
set_option maxHeartbeats 2000000 in
set_option maxRecDepth 20000 in
theorem a7R (y z:Co)(hy:a1Z y)(hz:a1Z z)(vy vz:Value)(bb:Nat)(C:List Ins)(K1:List Int)(vc vk:Value)(w:World)
 (sy:CSP (fun b=>b<bb) w y vy) (sz:CSP (fun b=>b<bb) w z vz) (h:Bd w bb C K1 vc vk) (hp:a4m w bb) (zy:sM y≠0) (zz:sM z≠0)
 (hC:C.length+8*(1+a0b y+a0b z)<=900000) (hK:K1.length+2*(1+a0b y+a0b z)<=900000) :
 Calls Tryz.prog 123 #[.pointer (some ⟨bb,0,none⟩),coV y vy,coV z vz] w fun e w'=>e=.returned (.tuple #[])/\a0K bb (foot bb vc vk) w (cat C (a1s 25 26 (a0n y) (a0n z) K1).1) (a1s 25 26 (a0n y) (a0n z) K1).2 w':=by
 obtain⟨ay,cy,rfl,-,-⟩:=sy.parts.shape
 obtain⟨az,cz,rfl,-,-⟩:=sz.parts.shape
 obtain⟨Y1,Y2,YB⟩:=a0V w 30 30 (coL y (.slice ay y.parts.length cy)) (coL z (.slice az z.parts.length cz))
 have HY:=a0a (And.intro Y1 Y2)
 have HB:=a0a YB
 have HF:Hid (∀ i,i∈foot bb vc vk->bb<=i/\i<w.heap.size):=a0a h.ge
 have H1:=a0a (Wk.start (h.next YB))
 have HS:=a0a (And.intro (sy.next YB) (sz.next YB))
 have HP:=a0a (hp.next YB)
 have HZ:=a0a (And.intro zy zz)
 have HN:=a0a (And.intro hC (And.intro hK (And.intro (a0m y) (a0m z))))
 have HX:=a0a (And.intro hy hz)
 obtain⟨B,K2,hB⟩:∃ B K2,Hid (a0n y K1=(B,K2)):=⟨_,_,a0a rfl⟩
 obtain⟨D,K3,hD⟩:∃ D K3,Hid (a0n z K2=(D,K3)):=⟨_,_,a0a rfl⟩
 have HL:Hid (B.length<=6*a0b y/\K2.length<=K1.length+2*a0b y/\D.length<=6*a0b z):=a0a (by
  have h2:=a1E y K1
  have h3:=a1E z K2
  rw[hB.out] at h2
  rw[hD.out] at h3
  exact⟨h2.1,h2.2,h3.1⟩)
 have HE:Hid (a1s 25 26 (a0n y) (a0n z) K1=(cat (cat (cat [(25,((B.length+2:Nat):Int))] B) [(26,((1+D.length:Nat):Int))]) D,K3)):=a0a (by
  unfold a1s
  simp only[hB.out,hD.out])
 rw[HE.out]
 clear hy hz sy sz h hp zy zz hC hK Y1 Y2 YB HE
 go_enter Tryz.func123,Tryz.ntmps123
 go_wp2_with fail
 generalize hW:((w.alloc _).alloc _)=W at *
 clear hW
 have HNF:Hid (∀ i,w.heap.size<=i->i∉foot bb vc vk):=a0a (fun i hi hm=>by have:=(HF.out i hm).2;omega)
 refine ZF (a2Q bb C K1 vc vk 25 0 W H1.out.bd (by have:=HN.out;omega)) ?_
 intro e w2 g2
 obtain⟨rfl,vc2,vk2,k2,-,o2⟩:=H1.out.jumped g2
 have H2:=a0a k2
 have O2:=a0a o2
 have b2:=HY.out.1.turn k2.turn (HNF.out _ (by omega))
 obtain⟨c0,c1,c2,c3⟩:=Box.c4 b2
 have cl:=b2.lt
 clear g2 k2 o2 b2
 go_wp2_with fail
 refine ZF (HX.out.1 _ bb (C++[(25,0)]) K1 vc2 vk2 w2 (H2.out.core (fun i hi=>(HF.out i hi).1) HS.out.1) H2.out.bd (H2.out.po (fun i hi=>(HF.out i hi).1) HP.out) HZ.out.1 (by rw[List.length_append,List.length_singleton];have:=HN.out;omega) (by have:=HN.out;omega)) ?_
 rintro e w3 ⟨rfl,g3⟩
 rw[hB.out] at g3
 obtain⟨vc3,vk3,k3,s3⟩:=H2.out.went g3
 have H3:=a0a k3
 have O3:=a0a (s3 _ _ _ O2.out)
 clear g3 k3 s3 c0 c1 c2 c3 cl O2
 go_wp2_with fail
 refine ZF (a2Q bb (cat (C++[(25,0)]) B) K2 vc3 vk3 26 0 w3 H3.out.bd (by rw[a0h,List.length_append,List.length_singleton];have:=HN.out;have:=HL.out;omega)) ?_
 intro e w4 g4
 obtain⟨rfl,vc4,vk4,k4,s4,o4⟩:=H3.out.jumped g4
 have H4:=a0a k4
 have P4:=a0a (And.intro (s4 _ _ _ O3.out) o4)
 clear g4 k4 s4 o4 O3
 go_wp2_with fail
 refine ZF (a2T W.heap.size bb (cat (C++[(25,0)]) B++[(26,0)]) K2 vc4 vk4 0 C.length (25,0) w4 H4.out.bd P4.out.1.jm (a5o (a2Y (a2a _ _))) (a1T (by simp only[a0h,List.length_append,List.length_singleton];have:=HN.out;have:=HL.out;omega)) P4.out.1.far) ?_
 rintro e w5 ⟨rfl,g5⟩
 obtain⟨vc5,vk5,k5,s5⟩:=H4.out.went g5
 have H5:=a0a k5
 have O5:=a0a (s5 _ _ _ P4.out.2)
 have b5:=HY.out.2.turn k5.turn (HNF.out _ (by omega))
 obtain⟨c0,c1,c2,c3⟩:=Box.c4 b5
 have cl:=b5.lt
 clear g5 k5 s5 b5 P4
 go_wp2_with fail
 refine ZF (HX.out.2 _ bb _ K2 vc5 vk5 w5 (H5.out.core (fun i hi=>(HF.out i hi).1) HS.out.2) H5.out.bd (H5.out.po (fun i hi=>(HF.out i hi).1) HP.out) HZ.out.2 (by simp only[List.length_set,a0h,List.length_append,List.length_singleton];have:=HN.out;have:=HL.out;omega) (by have:=HN.out;have:=HL.out;omega)) ?_
 rintro e w6 ⟨rfl,g6⟩
 rw[hD.out] at g6
 obtain⟨vc6,vk6,k6,s6⟩:=H5.out.went g6
 have H6:=a0a k6
 have O6:=a0a (s6 _ _ _ O5.out)
 clear g6 k6 s6 c0 c1 c2 c3 cl O5
 go_wp2_with fail
 refine ZF (a2T w3.heap.size bb _ K3 vc6 vk6 0 (cat (C++[(25,0)]) B).length (26,0) w6 H6.out.bd O6.out.jm (a2Y (by rw[List.getElem?_set_ne (by simp only[a0h,List.length_append,List.length_singleton];omega)];exact a2a _ _)) (a1T (by simp only[List.length_set,a0h,List.length_append,List.length_singleton];have:=HN.out;have:=HL.out;omega)) O6.out.far) ?_
 rintro e w7 ⟨rfl,g7⟩
 obtain⟨vc7,vk7,k7,-⟩:=H6.out.went g7
 have H7:=a0a k7
 clear g7 k7 O6
 go_wp2_with fail
 refine bodyPost_end (v:=.tuple #[]) (by simp[results,Tryz.results123,go_sem, *]) rfl ?_
 refine⟨rfl,?_⟩
 have g:=a0K.alloc HB.out H7.out.done HB.out.size
 rw[a4g C B D 25 26 rfl rfl] at g
 exact g
theorem Wk.lay1 {w0 w:World}{bb:Nat}{F:List Nat}{C:List Ins}{K:List Int}{vc vk:Value}(h:Wk bb F w0 C K vc vk w)(op a:Int)(hb:C.length+1<=1000000):
 Calls Tryz.prog 118 #[.pointer (some ⟨bb,0,none⟩),.slice (some ⟨w.heap.size,0,none⟩) 1 1] (w.alloc (.cells #[.int .i64 op,.int .i64 a] 61)) fun e w'=>e=.returned (.tuple #[])/\∃ vc' vk',Wk bb F w0 (C++[(op,a)]) K vc' vk' w'/\a9X bb w0 vc vk w vc' vk' w':=by
 have B:Below w.heap.size w (w.alloc (.cells #[.int .i64 op,.int .i64 a] 61)):=(ZE _ _).alloc (ZC _) _
 have h1:=h.next B
 refine ZF (a8I bb C [(op,a)] K vc vk w.heap.size 1 _ h1.bd (by show 0<1;decide) (Box.new w [.int .i64 op,.int .i64 a] 61) hb) ?_
 rintro e w' ⟨rfl,g⟩
 obtain⟨vc',vk',k,s⟩:=h1.went g
 exact⟨rfl,vc',vk',k,fun j more at' o=>s j more at' (o.next B)⟩
theorem a1Q (C:List Ins)(op a:Int)(h:a3F op=false):C++[(op,a)]=cat C [(op,a)]:=by
 unfold cat
 rw[List.map_cons,List.map_nil,show shI C.length (op,a)=(op,a) from if_neg (by rw[h];decide)]
set_option maxHeartbeats 2000000 in
set_option maxRecDepth 20000 in
theorem a9C (n:Int)(y:Co)(hy:a1Z y)(vy:Value)(bb:Nat)(C:List Ins)(K1:List Int)(vc vk:Value)(w:World)
 (sy:CSP (fun b=>b<bb) w y vy) (h:Bd w bb C K1 vc vk) (hp:a4m w bb) (zy:sM y≠0) (hn:0<=n/\n<256)
 (hC:C.length+8*(1+a0b y)<=900000) (hK:K1.length+2*(1+a0b y)<=900000) :
 Calls Tryz.prog 120 #[.pointer (some ⟨bb,0,none⟩),.int .i64 n,coV y vy] w fun e w'=>e=.returned (.tuple #[])/\a0K bb (foot bb vc vk) w (cat C (a2f 27 (n*16384) (a0n y) [(28,n)] K1).1) (a2f 27 (n*16384) (a0n y) [(28,n)] K1).2 w':=by
 obtain⟨ay,cy,rfl,-,-⟩:=sy.parts.shape
 obtain⟨Y1,YB⟩:=a0D w 30 (coL y (.slice ay y.parts.length cy))
 have HY:=a0a Y1
 have HB:=a0a YB
 have HF:Hid (∀ i,i∈foot bb vc vk->bb<=i/\i<w.heap.size):=a0a h.ge
 have H1:=a0a (Wk.start (h.next YB))
 have HS:=a0a (sy.next YB)
 have HP:=a0a (hp.next YB)
 have HZ:=a0a zy
 have HN:=a0a (And.intro hC (And.intro hK (a0m y)))
 have HX:=a0a hy
 have Hn:=a0a hn
 have hw0:IntKind.i64.wrap (n*16384)=n*16384:=by rw[IntKind.wrap_i64];omega
 obtain⟨B,K2,hB⟩:∃ B K2,Hid (a0n y K1=(B,K2)):=⟨_,_,a0a rfl⟩
 have HL:Hid (B.length<=6*a0b y/\K2.length<=K1.length+2*a0b y):=a0a (by
  have h2:=a1E y K1
  rw[hB.out] at h2
  exact h2)
 have HE:Hid (a2f 27 (n*16384) (a0n y) [(28,n)] K1=(cat (cat [(27,n*16384+((B.length+1+[((28:Int),n)].length:Nat):Int))] B) [(28,n)],K2)):=a0a (by
  unfold a2f
  simp only[hB.out])
 rw[HE.out]
 clear hy sy h hp zy hC hK Y1 YB HE hn
 go_enter Tryz.func120,Tryz.ntmps120
 go_wp2_with fail
 generalize hW:(w.alloc _)=W at *
 clear hW
 have HNF:Hid (∀ i,w.heap.size<=i->i∉foot bb vc vk):=a0a (fun i hi hm=>by have:=(HF.out i hm).2;omega)
 refine ZF (a2Q bb C K1 vc vk 27 (n*16384) W H1.out.bd (by have:=HN.out;omega)) ?_
 intro e w2 g2
 obtain⟨rfl,vc2,vk2,k2,-,o2⟩:=H1.out.jumped g2
 have H2:=a0a k2
 have O2:=a0a o2
 have b2:=HY.out.turn k2.turn (HNF.out _ (by omega))
 obtain⟨c0,c1,c2,c3⟩:=Box.c4 b2
 have cl:=b2.lt
 clear g2 k2 o2 b2
 go_wp2_with fail
 refine ZF (HX.out _ bb (C++[(27,0)]) K1 vc2 vk2 w2 (H2.out.core (fun i hi=>(HF.out i hi).1) HS.out) H2.out.bd (H2.out.po (fun i hi=>(HF.out i hi).1) HP.out) HZ.out (by rw[List.length_append,List.length_singleton];have:=HN.out;omega) (by have:=HN.out;omega)) ?_
 rintro e w3 ⟨rfl,g3⟩
 rw[hB.out] at g3
 obtain⟨vc3,vk3,k3,s3⟩:=H2.out.went g3
 have H3:=a0a k3
 have O3:=a0a (s3 _ _ _ O2.out)
 clear g3 k3 s3 c0 c1 c2 c3 cl O2
 go_wp2_with fail
 refine ZF (H3.out.lay1 28 n (by rw[a0h,List.length_append,List.length_singleton];have:=HN.out;have:=HL.out;omega)) ?_
 rintro e w4 ⟨rfl,vc4,vk4,k4,s4⟩
 have H4:=a0a k4
 have O4:=a0a (s4 _ _ _ O3.out)
 clear k4 s4 O3
 go_wp2_with fail
 refine ZF (a2T W.heap.size bb (cat (C++[(27,0)]) B++[(28,n)]) K2 vc4 vk4 (n*16384) C.length (27,0) w4 H4.out.bd O4.out.jm (a5o (a2Y (a2a _ _))) (by have:=HN.out;have:=HL.out;have:=Hn.out;unfold C64;simp only[a0h,List.length_append,List.length_singleton];omega) O4.out.far) ?_
 rintro e w5 ⟨rfl,g5⟩
 obtain⟨vc5,vk5,k5,-⟩:=H4.out.went g5
 have H5:=a0a k5
 clear g5 k5 O4
 go_wp2_with fail
 refine bodyPost_end (v:=.tuple #[]) (by simp[results,Tryz.results120,go_sem, *]) rfl ?_
 refine⟨rfl,?_⟩
 have g:=a0K.alloc HB.out H5.out.done HB.out.size
 rw[a2J C B [(28,n)] 27 (n*16384) rfl (by intro x hx;rw[List.mem_singleton.1 hx];rfl)] at g
 exact g
end Go.Proofs.YtbddbnjhmdbkbaaGreatDoor
