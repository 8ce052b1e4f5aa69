import Derived.Test.YtbddbnjhmdbkbaaGreatDoorCbNaD
import Derived.Test.YtbddbnjhmdbkbaaGreatDoorCbMgP
namespace Go.Proofs.YtbddbnjhmdbkbaaGreatDoor
open Go.RowKit
abbrev rgL (l:List Co):List (Co×Mk):=l.map fun x=>(x,a0n x)
theorem a6b (b a:Co)(r:List Co)(C:List Ins)(K K2:List Int)(A:List Ins)(hA:a0n a (a3W K b.n)=(A,K2)):
 cat C (a0U (rgL (b::a::r)) K).1=cat ((cat (C++[(32,0),(1,((K.idxOf b.n:Nat):Int)),(16,0)]++[(24,0)]++[(33,0)]) A).set (C++[(32,0),(1,((K.idxOf b.n:Nat):Int)),(16,0)]).length (24,(0:Int)+((cat (C++[(32,0),(1,((K.idxOf b.n:Nat):Int)),(16,0)]++[(24,0)]++[(33,0)]) A).length:Int))) (a0U (rgL r) K2).1/\(a0U (rgL (b::a::r)) K).2=(a0U (rgL r) K2).2:=by
 have e:a0U (rgL (b::a::r)) K=(cat (cat [(32,0)] (cat [(1,((K.idxOf b.n:Nat):Int))] [(16,0)])) (cat (cat (cat [((24:Int),(0:Int)+((((cat [(33,0)] A).length+1+([]:List Ins).length:Nat)):Int))] (cat [(33,0)] A)) []) (a0U (rgL r) K2).1),(a0U (rgL r) K2).2):=by
  show a0U ((b,a0n b)::(a,a0n a)::rgL r) K=_
  rw[a0U]
  unfold a0s a2f a5e a5w
  simp only[hA]
 rw[e]
 refine⟨?_,rfl⟩
 have h:=a2J (C++[(32,0),(1,((K.idxOf b.n:Nat):Int)),(16,0)]) (cat [(33,0)] A) [] 24 0 rfl (fun x hx=>by cases hx)
 rw[List.append_nil,<-a1i,<-a1Q _ 33 0 rfl] at h
 rw[h]
 have h3:C++[(32,0),(1,((K.idxOf b.n:Nat):Int)),(16,0)]=cat C (cat [(32,0)] (cat [(1,((K.idxOf b.n:Nat):Int))] [(16,0)])):=by
  rw[<-a1i,<-a1i,<-a1Q C 32 0 rfl,<-a1Q _ 1 _ rfl,<-a1Q _ 16 0 rfl]
  simp
 rw[h3]
 simp only[a1i]
theorem a6e (a:Co)(C:List Ins)(K K2:List Int)(A:List Ins)(hA:a0n a K=(A,K2)):cat C (a0U (rgL [a]) K).1=cat (C++[(33,0)]) A/\(a0U (rgL [a]) K).2=K2:=by
 have e:a0U (rgL [a]) K=(cat [(33,0)] A,K2):=by
  show a0U ((a,a0n a)::[]) K=_
  rw[a0U]
  unfold a0s a5e
  simp only[hA]
  intro b a r
  cases r
 rw[e,a1Q _ 33 0 rfl,a1i]
 exact⟨rfl,rfl⟩
theorem a4H {α : Type}{l:List α}{i:Nat}{x : α}(h:l[i]? = some x):l.drop i=x::l.drop (i+1):=by
 obtain⟨h1,h2⟩:=List.getElem?_eq_some_iff.1 h
 rw[List.drop_eq_getElem_cons h1,h2]
theorem Wk.lay3 {w0 w:World}{bb:Nat}{F:List Nat}{C:List Ins}{K:List Int}{vc vk:Value}(h:Wk bb F w0 C K vc vk w)(o1 a1 o2 a2 o3 a3:Int)(hb:C.length+3<=1000000):
 Calls Tryz.prog 118 #[.pointer (some ⟨bb,0,none⟩),.slice (some ⟨w.heap.size,0,none⟩) 3 3] (w.alloc (.cells #[.int .i64 o1,.int .i64 a1,.int .i64 o2,.int .i64 a2,.int .i64 o3,.int .i64 a3] 61)) fun e w'=>e=.returned (.tuple #[])/\∃ vc' vk',Wk bb F w0 (C++[(o1,a1),(o2,a2),(o3,a3)]) K vc' vk' w'/\a9X bb w0 vc vk w vc' vk' w':=by
 have B:Below w.heap.size w (w.alloc (.cells #[.int .i64 o1,.int .i64 a1,.int .i64 o2,.int .i64 a2,.int .i64 o3,.int .i64 a3] 61)):=(ZE _ _).alloc (ZC _) _
 have h1:=h.next B
 refine ZF (a8I bb C [(o1,a1),(o2,a2),(o3,a3)] K vc vk w.heap.size 3 _ h1.bd (by show 0<3;decide) (Box.new w [.int .i64 o1,.int .i64 a1,.int .i64 o2,.int .i64 a2,.int .i64 o3,.int .i64 a3] 61) hb) ?_
 rintro e w' ⟨rfl,g⟩
 obtain⟨vc',vk',k,s⟩:=h1.went g
 exact⟨rfl,vc',vk',k,fun j more at' o=>s j more at' (o.next B)⟩
set_option maxHeartbeats 4000000 in
set_option maxRecDepth 20000 in
theorem a6s (P:List Co)(ih:∀ x,x∈P->a1Z x)(m:Nat)(hl:P.length=2*m+2)(v:Value)(bb:Nat)(C:List Ins)(K:List Int)(vc vk:Value)(w:World)
 (hs:CAP (fun b=>b<bb) w v P) (h:Bd w bb C K vc vk) (hp:a4m w bb) (hz:∀ x,x∈P->sM x≠0)
 (hC:C.length+8*(1+a0f P)<=900000) (hK:K.length+2*(1+a0f P)<=900000) (a:Co) (r:List Co) (hP:P=a::r) :
 Calls Tryz.prog 124 #[.pointer (some ⟨bb,0,none⟩),v] w fun e w'=>e=.returned (.tuple #[])/\a0K bb (foot bb vc vk) w (cat C (a0s (a0n a) (a0U (rgL r)) K).1) (a0s (a0n a) (a0U (rgL r)) K).2 w':=by
 obtain⟨b,off,cap,rfl,q1,q2,q3,q4,q5⟩:=hs.open (by omega)
 have HQ:=a0a q5
 have HF:Hid (∀ i,i∈foot bb vc vk->bb<=i/\i<w.heap.size):=a0a h.ge
 have H0:=a0a (Wk.start h)
 have HP:=a0a hp
 have HZ:=a0a hz
 have HI:=a0a ih
 have HN:=a0a (And.intro hC hK)
 obtain⟨N,hN⟩:∃ N,Hid (N=P.length):=⟨_,a0a rfl⟩
 have HNm:Hid (N=2*m+2):=a0a (hN.out.trans hl)
 obtain⟨T,KT,hT⟩:∃ T KT,Hid (cat C (a0s (a0n a) (a0U (rgL r)) K).1=T/\(a0s (a0n a) (a0U (rgL r)) K).2=KT):=⟨_,_,a0a ⟨rfl,rfl⟩⟩
 rw[hT.out.1,hT.out.2]
 have HPa:=a0a hP
 rw[<-hN.out] at q1 ⊢
 have HR:Hid (∀ (i:Nat) (_:i<N) (W:World) (C':List Ins) (K':List Int) (vc' vk':Value),Wk bb (foot bb vc vk) w C' K' vc' vk' W->∃ x ux,P[i]? = some x/\x∈P/\CSP (fun b=>b<bb) W x ux/\(∃ ax cx,ux=.slice ax x.parts.length cx)/\a4R W b (off+i*4) x ux/\b<W.heap.size):=a0a (fun i hi W C' K' vc' vk' hk=>by
  have hi':i<P.length:=by rw[<-hN.out];exact hi
  obtain⟨u,f,s⟩:=HQ.out i hi'
  obtain⟨ax,cx,hu,-,-⟩:=s.parts.shape
  have hb:b∉foot bb vc vk:=fun hm=>by have:=(HF.out b hm).1;omega
  exact⟨P[i],u,List.getElem?_eq_getElem hi',List.getElem_mem hi',hk.core (fun i hi=>(HF.out i hi).1) s,⟨ax,cx,hu⟩,f.keep (fun j=>a1V hk.turn q3 hb),ZA q3 hk.turn.size⟩)
 obtain⟨A,K1,hA⟩:∃ A K1,Hid (a0n a K=(A,K1)):=⟨_,_,a0a rfl⟩
 have hlen:(N:Int)-1=((2*m+1:Nat):Int):=by have:=HNm.out;omega
 have hw1:IntKind.i64.wrap ((N:Int)-1)=((2*m+1:Nat):Int):=by have:=HNm.out;have:=HN.out;have:=a1c P;have:=hN.out;rw[IntKind.wrap_i64];omega
 obtain⟨x0,ux,e0,m0,s0,⟨ax,cx,rfl⟩,f0,l0⟩:=HR.out 0 (by have:=HNm.out;omega) w C K vc vk H0.out
 obtain rfl:x0=a:=by rw[hP] at e0;exact(Option.some.inj e0).symm
 have HS0:=a0a (And.intro s0 m0)
 rw[show off+0*4=off by omega] at f0
 obtain⟨c0,c1,c2,c3⟩:=f0
 have hN0:0<N:=by have:=HNm.out;omega
 clear hs h hp hz ih hC hK hl hP q5 e0 m0 s0 HQ
 go_enter Tryz.func124,Tryz.ntmps124
 go_wp2_with fail
 refine ZF (HI.out x0 HS0.out.2 _ bb C K vc vk w HS0.out.1 H0.out.bd HP.out (HZ.out x0 HS0.out.2) (by have:=HN.out;have:=a1I HS0.out.2;omega) (by have:=HN.out;have:=a1I HS0.out.2;omega)) ?_
 rintro e w1 ⟨rfl,g1⟩
 rw[hA.out] at g1
 obtain⟨vc1,vk1,k1,-⟩:=H0.out.went g1
 have H1:=a0a k1
 have HL1:Hid (A.length<=6*a0b x0/\K1.length<=K.length+2*a0b x0):=a0a (by
  have h2:=a1E x0 K
  rw[hA.out] at h2
  exact h2)
 have HT1:Hid (cat (cat C A) (a0U (rgL (P.drop 1)) K1).1=T/\(a0U (rgL (P.drop 1)) K1).2=KT):=a0a (by
  have:=hT.out
  unfold a0s at this
  simp only[hA.out] at this
  rw[HPa.out,a1i]
  exact this)
 clear g1 k1 c0 c1 c2 c3 l0 HS0
 have HC1:Hid ((cat C A).length+8*a0f (P.drop 1)+8<=900000/\K1.length+2*a0f (P.drop 1)<=900000):=a0a (by
  have h1:=HN.out
  have h2:=HL1.out
  rw[HPa.out,a0d] at h1
  rw[HPa.out,a0h,List.drop_succ_cons,List.drop_zero]
  omega)
 clear HL1 hT hA HN HPa
 go_wp2_with fail
 go_loopw [5] (fun i wr=>∃ (k j:Nat) (D:List Ins) (L:List Int) (vd vl:Value),i=.int .i64 (k:Nat)/\Hid (k=2*j+1)/\Hid (j<=m)/\Hid (Wk bb (foot bb vc vk) w D L vd vl wr)/\Hid (cat D (a0U (rgL (P.drop k)) L).1=T/\(a0U (rgL (P.drop k)) L).2=KT)/\Hid (D.length+8*a0f (P.drop k)+8<=900000/\L.length+2*a0f (P.drop k)<=900000)) (fun i _=>match i with | .int _ z=>((N:Int)-z).toNat | _=>0)
 case atStart=>exact⟨1,0,_,_,_,_,rfl,a0a rfl,a0a (Nat.zero_le _),H1,HT1,HC1⟩
 case round=>
  obtain⟨k,j,D,L,vd,vl,rfl,Hk,Hj,HW,HT,HC⟩:=hrel
  by_cases hlt:k<2*m+1
  ·have hlt':(k:Int)<2*(m:Int)+1:=by omega
   have hkN:(k:Int)<(N:Int):=by have:=HNm.out;omega
   have hkN1:(k:Int)+1<(N:Int):=by have:=HNm.out;omega
   have hw2:IntKind.i64.wrap ((k:Int)+1)=(k:Int)+1:=by rw[IntKind.wrap_i64];omega
   have hw3:IntKind.i64.wrap ((k:Int)+2)=(k:Int)+2:=by rw[IntKind.wrap_i64];omega
   obtain⟨x,ux,e0,m0,s0,-,f0,l0⟩:=HR.out k (by omega) wr D L vd vl HW.out
   obtain⟨y,uy,e1,m1,-⟩:=HR.out (k+1) (by omega) wr D L vd vl HW.out
   have HD:Hid (P.drop k=x::y::P.drop (k+2)):=a0a (by rw[a4H e0,a4H e1])
   have HM:=a0a (And.intro e1 m1)
   have d1:=f0.c1
   clear e0 m0 s0 f0 e1 m1
   obtain⟨G,K3,hG⟩:∃ G K3,Hid (a0n y (a3W L x.n)=(G,K3)):=⟨_,_,a0a rfl⟩
   have HLG:Hid (G.length<=6*a0b y/\K3.length<=L.length+1+2*a0b y/\(a3W L x.n).length<=L.length+1/\a0f (P.drop k)=a0b x+(a0b y+a0f (P.drop (k+2)))/\1<=a0b x/\1<=a0b y):=a0a (by
    have h2:=a1E y (a3W L x.n)
    have h3:=a4Z L x.n
    rw[hG.out] at h2
    refine⟨h2.1,by have:=h2.2;simp only at this;omega,h3,?_,a0m x,a0m y⟩
    rw[HD.out,a0d,a0d])
   have HT2:Hid (cat ((cat (D++[(32,0),(1,((L.idxOf x.n:Nat):Int)),(16,0)]++[(24,0)]++[(33,0)]) G).set (D++[(32,0),(1,((L.idxOf x.n:Nat):Int)),(16,0)]).length (24,(0:Int)+((cat (D++[(32,0),(1,((L.idxOf x.n:Nat):Int)),(16,0)]++[(24,0)]++[(33,0)]) G).length:Int))) (a0U (rgL (P.drop (k+2))) K3).1=T/\(a0U (rgL (P.drop (k+2))) K3).2=KT):=a0a (by
    have h1:=a6b x y (P.drop (k+2)) D L K3 G hG.out
    have h2:=HT.out
    rw[HD.out] at h2
    exact⟨h1.1.symm.trans h2.1,h1.2.symm.trans h2.2⟩)
   obtain⟨ix,hix⟩:∃ ix,Hid (ix=L.idxOf x.n):=⟨_,a0a rfl⟩
   rw[<-hix.out] at HT2
   clear HT
   go_wp2_with fail
   refine ZF (a4Y bb D L vd vl x.n wr HW.out.bd (by have:=HC.out;have:=HLG.out;omega)) ?_
   rintro e w2 ⟨rfl,g2⟩
   rw[<-hix.out]
   obtain⟨vd2,vl2,k2,-⟩:=HW.out.went g2
   have H2:=a0a k2
   clear g2 k2 d1 l0
   go_wp2_with fail
   refine ZF (H2.out.lay3 32 0 1 ix 16 0 (by have:=HC.out;omega)) ?_
   rintro e w3 ⟨rfl,vd3,vl3,k3,-⟩
   have H3:=a0a k3
   clear k3
   go_wp2_with fail
   refine ZF (a2Q bb (D++[(32,0),(1,(ix:Int)),(16,0)]) (a3W L x.n) vd3 vl3 24 0 w3 H3.out.bd (by rw[List.length_append];have:=HC.out;simp only[List.length_cons,List.length_nil];omega)) ?_
   intro e w4 g4
   obtain⟨rfl,vd4,vl4,k4,-,o4⟩:=H3.out.jumped g4
   have H4:=a0a k4
   have O4:=a0a o4
   clear g4 k4 o4
   go_wp2_with fail
   refine ZF (H4.out.lay1 33 0 (by simp only[List.length_append,List.length_cons,List.length_nil];have:=HC.out;omega)) ?_
   rintro e w5 ⟨rfl,vd5,vl5,k5,s5⟩
   have H5:=a0a k5
   have O5:=a0a (s5 _ _ _ O4.out)
   clear k5 s5 O4
   obtain⟨y',uy,e1,m1,s1,⟨ay,cy,rfl⟩,⟨c0,c1,c2,c3⟩,l1⟩:=HR.out (k+1) (by omega) w5 _ _ _ _ H5.out
   obtain rfl:y'=y:=by have:=HM.out.1;rw[e1] at this;exact Option.some.inj this
   have HS1:=a0a s1
   clear e1 m1 s1
   go_wp2_with fail
   refine ZF (HI.out y' HM.out.2 _ bb _ (a3W L x.n) vd5 vl5 w5 HS1.out H5.out.bd (H5.out.po (fun i hi=>(HF.out i hi).1) HP.out) (HZ.out y' HM.out.2) (by simp only[List.length_append,List.length_cons,List.length_nil];have:=HC.out;have:=HLG.out;omega) (by have:=HC.out;have:=HLG.out;omega)) ?_
   rintro e w6 ⟨rfl,g6⟩
   rw[hG.out] at g6
   obtain⟨vd6,vl6,k6,s6⟩:=H5.out.went g6
   have H6:=a0a k6
   have O6:=a0a (s6 _ _ _ O5.out)
   clear g6 k6 s6 O5 c0 c1 c2 c3 l1 HS1
   go_wp2_with fail
   refine ZF (a2T w3.heap.size bb _ K3 vd6 vl6 0 (D++[(32,0),(1,(ix:Int)),(16,0)]).length (24,0) w6 H6.out.bd O6.out.jm (a2Y (a5o (a2a _ _))) (a1T (by simp only[a0h,List.length_append,List.length_cons,List.length_nil];have:=HC.out;have:=HLG.out;omega)) O6.out.far) ?_
   rintro e w7 ⟨rfl,g7⟩
   obtain⟨vd7,vl7,k7,-⟩:=H6.out.went g7
   have H7:=a0a k7
   clear g7 k7 O6
   have HC7:Hid (((cat (D++[(32,0),(1,(ix:Int)),(16,0)]++[(24,0)]++[(33,0)]) G).set (D++[(32,0),(1,(ix:Int)),(16,0)]).length (24,(0:Int)+((cat (D++[(32,0),(1,(ix:Int)),(16,0)]++[(24,0)]++[(33,0)]) G).length:Int))).length+8*a0f (P.drop (k+2))+8<=900000/\K3.length+2*a0f (P.drop (k+2))<=900000):=a0a (by
    have:=HC.out
    have:=HLG.out
    simp only[List.length_set,a0h,List.length_append,List.length_cons,List.length_nil]
    omega)
   go_wp2_with fail
   go_roundw
   case rel=>exact⟨k+2,j+1,_,_,_,_,by go_num,a0a (by have:=Hk.out;omega),a0a (by have:=Hk.out;omega),H7,HT2,HC7⟩
   case measure=>simp;omega
  ·have hlt':¬(k:Int)<2*(m:Int)+1:=by omega
   have hkm:Hid (k=2*m+1/\k<N):=a0a (by have:=Hk.out;have:=Hj.out;have:=HNm.out;omega)
   have hkN:(k:Int)<(N:Int):=by have:=hkm.out;omega
   have hkN2:2*(m:Int)+1<(N:Int):=by have:=HNm.out;omega
   have hk2:(2*(m:Int)+1).toNat=k:=by have:=hkm.out;omega
   obtain⟨x,ux,e0,m0,-⟩:=HR.out k hkm.out.2 wr D L vd vl HW.out
   have HM:=a0a (And.intro e0 m0)
   have HD:Hid (P.drop k=[x]):=a0a (by
    rw[a4H e0,List.drop_eq_nil_of_le (by have:=hkm.out;have:=HNm.out;have:=hN.out;omega)])
   obtain⟨G,K3,hG⟩:∃ G K3,Hid (a0n x L=(G,K3)):=⟨_,_,a0a rfl⟩
   have HT2:Hid (cat (D++[(33,0)]) G=T/\K3=KT):=a0a (by
    have h1:=a6e x D L K3 G hG.out
    have h2:=HT.out
    rw[HD.out] at h2
    exact⟨h1.1.symm.trans h2.1,h1.2.symm.trans h2.2⟩)
   have HLG:Hid (a0f (P.drop k)=a0b x):=a0a (by rw[HD.out,a0d,a0A];rfl)
   clear HT e0 m0
   go_wp2_with fail
   refine ZF (HW.out.lay1 33 0 (by have:=HC.out;omega)) ?_
   rintro e w5 ⟨rfl,vd5,vl5,k5,-⟩
   have H5:=a0a k5
   clear k5
   obtain⟨y',uy,e1,m1,s1,⟨ay,cy,rfl⟩,⟨c0,c1,c2,c3⟩,l1⟩:=HR.out k hkm.out.2 w5 _ _ _ _ H5.out
   obtain rfl:y'=x:=by have:=HM.out.1;rw[e1] at this;exact Option.some.inj this
   have HS1:=a0a s1
   clear e1 m1 s1
   go_wp2_with fail
   refine ZF (HI.out y' HM.out.2 _ bb _ L vd5 vl5 w5 HS1.out H5.out.bd (H5.out.po (fun i hi=>(HF.out i hi).1) HP.out) (HZ.out y' HM.out.2) (by simp only[List.length_append,List.length_cons,List.length_nil];have:=HC.out;have:=HLG.out;omega) (by have:=HC.out;have:=HLG.out;omega)) ?_
   rintro e w6 ⟨rfl,g6⟩
   rw[hG.out] at g6
   obtain⟨vd6,vl6,k6,-⟩:=H5.out.went g6
   have H6:=a0a k6
   clear g6 k6 c0 c1 c2 c3 l1 HS1
   go_wp2_with fail
   refine bodyPost_end (v:=.tuple #[]) (by simp[results,Tryz.results124,go_sem, *]) rfl ?_
   rw[<-HT2.out.1,<-HT2.out.2]
   exact⟨rfl,H6.out.done⟩
theorem a0M {t:Co}(h:sM t≠0):∀ x,x∈t.parts->sM x≠0:=by
 obtain⟨k,-,-,-,-,hp,-⟩:=a2x h
 exact hp
theorem a0K.cell {bb:Nat}{F:List Nat}{w w':World}{C:List Ins}{K:List Int}(h:a0K bb F w C K w'){p:Addr}(hp:p.block<w.heap.size)(hn:p.block∉F):w'.cell? p=w.cell? p:=by
 obtain⟨_,_,_,t,_⟩:=h
 exact t.cell hp hn
theorem a0K.size {bb:Nat}{F:List Nat}{w w':World}{C:List Ins}{K:List Int}(h:a0K bb F w C K w'):w.heap.size<=w'.heap.size:=by
 obtain⟨_,_,_,t,_⟩:=h
 exact t.size
theorem a7x:sM ⟨2,0,0,[]⟩≠0:=by
 show a0e a0v 256 256 256 _≠0
 rw[a0X]
 decide
theorem a7w:sM ⟨2,1,0,[]⟩≠0:=by
 show a0e a0v 256 256 256 _≠0
 rw[a0X]
 decide
theorem a1m {w w':World}{bb b off:Nat}{P:List Co}(hx:∀ i (h:i<P.length),∃ u,a4R w b (off+i*4) P[i] u/\CSP (fun b=>b<bb) w P[i] u)(hb:b<w.heap.size)(k:Below w.heap.size w w'){i:Nat}{x:Co}(h:P[i]? = some x):
 ∃ a c,CSP (fun b=>b<bb) w' x (.slice a x.parts.length c)/\w'.cell? ⟨b,off+i*4,none⟩=some (.int .i64 x.op)/\w'.cell? ⟨b,off+i*4+1,none⟩=some (.int .i64 x.n)/\w'.cell? ⟨b,off+i*4+2,none⟩=some (.int .i64 x.m)/\w'.cell? ⟨b,off+i*4+3,none⟩=some (.slice a x.parts.length c):=by
 obtain⟨hi,rfl⟩:=List.getElem?_eq_some_iff.1 h
 obtain⟨u,f,s⟩:=hx i hi
 obtain⟨a,c,rfl,-,-⟩:=s.parts.shape
 exact⟨a,c,s.next k,(k.cell (p:=⟨b,_,none⟩) hb).trans f.c0,(k.cell (p:=⟨b,_,none⟩) hb).trans f.c1,(k.cell (p:=⟨b,_,none⟩) hb).trans f.c2,(k.cell (p:=⟨b,_,none⟩) hb).trans f.c3⟩
set_option maxHeartbeats 2000000 in
set_option maxRecDepth 20000 in
theorem a3N (k:Int)(hk:k=1\/k=2)(n m:Int)(P:List Co):a1Z ⟨k,n,m,P⟩:=by
 intro v bb C K vc vk w hs h hp hz hC hK
 have hcn:=a0m ⟨k,n,m,P⟩
 obtain⟨ad,cap,rfl,k1,k2⟩:=hs.parts.shape
 obtain⟨Y0,YB⟩:=a0D w 30 [.int .i64 k,.int .i64 n,.int .i64 m,.slice ad P.length cap]
 have H0:=a0a (Wk.start (h.next YB))
 have HB:=a0a YB
 have HL:Hid (C.length+1<=1000000/\K.length+1<=1000000):=a0a (by omega)
 have HE:Hid (a0n ⟨k,n,m,P⟩=a5w n):=a0a (by rw[a0S];exact a2A _ hk)
 rw[HE.out]
 obtain⟨x0,x1,x2,x3⟩:=Box.c4 Y0
 have xl:=Y0.lt
 clear hs h hp hz hC hK hcn Y0 YB k1 k2
 have hks:k=1\/k=2:=hk
 clear hk
 rcases hks with rfl | rfl
 all_goals
  go_enter Tryz.func66,Tryz.ntmps66
  go_wp2_with fail
  generalize hW:(w.alloc _)=W at *
  clear hW
  refine ZF (a4Y bb C K vc vk n W H0.out.bd HL.out.2) ?_
  rintro e w2 ⟨rfl,g2⟩
  obtain⟨vd2,vl2,k2,-⟩:=H0.out.went g2
  have H2:=a0a k2
  clear g2 k2 x0 x1 x2 x3 xl
  go_wp2_with fail
  refine ZF (H2.out.lay1 1 (K.idxOf n:Nat) HL.out.1) ?_
  rintro e w3 ⟨rfl,vd3,vl3,k3,-⟩
  have H3:=a0a k3
  clear k3
  go_wp2_with fail
  refine bodyPost_end (v:=.tuple #[]) (by simp[results,Tryz.results66,go_sem, *]) rfl ?_
  have g:=a0K.alloc HB.out H3.out.done HB.out.size
  rw[a1Q _ 1 _ rfl] at g
  exact⟨rfl,g⟩
set_option maxHeartbeats 2000000 in
set_option maxRecDepth 20000 in
theorem a6N (n m:Int)(y:Co)(hy:a1Z y):a1Z ⟨7,n,m,[y]⟩:=by
 intro v bb C K vc vk w hs h hp hz hC hK
 have hcn:a0b ⟨7,n,m,[y]⟩=1+a0b y:=by rw[a0q];simp only[a0d,a0A];omega
 have hzy:=a0M hz y (by simp)
 have hn:0<=n/\n<256:=by
  obtain⟨k,hop,-,-,hb,-,-⟩:=a6a hz
  obtain rfl:k=7:=by have:(7:Int)=(k:Int):=hop;omega
  have hb':(a0I n 256&&decide (m=0))=true:=hb
  unfold a0I at hb'
  simp only[Bool.and_eq_true,decide_eq_true_eq] at hb'
  exact hb'.1
 obtain⟨b,off,cap,rfl,k1,k2,hbl,hbb,hx⟩:=hs.parts.open (by show 0<1;decide)
 obtain⟨Y0,YB⟩:=a0D w 30 [.int .i64 7,.int .i64 n,.int .i64 m,.slice (some ⟨b,off,none⟩) 1 cap]
 have HB:=a0a YB
 have hbl':=ZA hbl YB.size
 obtain⟨ay,cy,sy,yy0,yy1,yy2,yy3⟩:=a1m hx hbl YB (i:=0) (x:=y) rfl
 rw[show off+0*4=off by omega] at yy0 yy1 yy2 yy3
 rw[hcn] at hC hK
 have HM:=a0a (fun W (hW:Below (w.alloc (.cells #[.int .i64 7,.int .i64 n,.int .i64 m,.slice (some ⟨b,off,none⟩) 1 cap] 30)).heap.size (w.alloc (.cells #[.int .i64 7,.int .i64 n,.int .i64 m,.slice (some ⟨b,off,none⟩) 1 cap] 30)) W)=>a9C n y hy (.slice ay y.parts.length cy) bb C K vc vk W (sy.next hW) ((h.next YB).next hW) ((hp.next YB).next hW) hzy hn hC hK)
 have nf:w.heap.size∉foot bb vc vk:=fun hm=>by have:=(h.ge _ hm).2;omega
 have nb:b∉foot bb vc vk:=fun hm=>by have:=(h.ge _ hm).1;omega
 have HE:Hid (a0n ⟨7,n,m,[y]⟩=a2f 27 (n*16384) (a0n y) [(28,n)]):=a0a (by rw[a0S];unfold a2q;simp only[show ¬((7:Int)=1\/(7:Int)=2) by decide,if_false,if_true];rfl)
 rw[HE.out]
 obtain⟨x0,x1,x2,x3⟩:=Box.c4 Y0
 have xl:=Y0.lt
 clear hs h hp hz hC hK hcn Y0 YB hy hzy hx sy k1 k2 hbl hbb hn
 go_enter Tryz.func66,Tryz.ntmps66
 go_wp2_with fail
 generalize hW:(w.alloc _)=W at *
 clear hW
 go_region_held3 (fun w'=>w'.cell? ⟨w.heap.size,1,none⟩=some (.int .i64 n)/\w'.cell? ⟨w.heap.size,3,none⟩=some (.slice (some ⟨b,off,none⟩) 1 cap)/\(w'.cell? ⟨b,off,none⟩=some (.int .i64 y.op)/\w'.cell? ⟨b,off+1,none⟩=some (.int .i64 y.n)/\w'.cell? ⟨b,off+2,none⟩=some (.int .i64 y.m)/\w'.cell? ⟨b,off+3,none⟩=some (.slice ay y.parts.length cy))) (simp[go_sem, *]) (first|(go_at_call 120;refine ZF (HM.out _ (by exact a1p W _)) ?_;rintro e w2 ⟨rfl,g2⟩;have gg:=fun p v hp hn hv=>(a0K.cell g2 (p:=p) hp hn).trans (hv:W.cell? p=some v);replace x1:=gg _ _ xl nf x1;replace x3:=gg _ _ xl nf x3;replace yy0:=gg _ _ hbl' nb yy0;replace yy1:=gg _ _ hbl' nb yy1;replace yy2:=gg _ _ hbl' nb yy2;replace yy3:=gg _ _ hbl' nb yy3;replace xl:w.heap.size<w2.heap.size:=ZA xl (by have hh:=a0K.size g2;exact hh);replace hbl':b<w2.heap.size:=ZA hbl' (by have hh:=a0K.size g2;exact hh);have HG:=a0a g2;clear g2 gg))
 all_goals go_wp2_with fail
 refine bodyPost_end (v:=.tuple #[]) (by simp[results,Tryz.results66,go_sem, *]) rfl ?_
 exact⟨rfl,a0K.alloc HB.out.drew HG.out HB.out.drew.size⟩
set_option maxHeartbeats 2000000 in
set_option maxRecDepth 20000 in
theorem a7V (n m:Int)(x y:Co)(hx_:a1Z x)(hy:a1Z y):a1Z ⟨25,n,m,[x,y]⟩:=by
 intro v bb C K vc vk w hs h hp hz hC hK
 have hcn:a0b ⟨25,n,m,[x,y]⟩=1+a0b x+a0b y:=by rw[a0q];simp only[a0d,a0A];omega
 have hzx:=a0M hz x (by simp)
 have hzy:=a0M hz y (by simp)
 obtain⟨b,off,cap,rfl,k1,k2,hbl,hbb,hx⟩:=hs.parts.open (by show 0<2;decide)
 obtain⟨Y0,YB⟩:=a0D w 30 [.int .i64 25,.int .i64 n,.int .i64 m,.slice (some ⟨b,off,none⟩) 2 cap]
 have HB:=a0a YB
 have hbl':=ZA hbl YB.size
 obtain⟨ax,cx,sx,yx0,yx1,yx2,yx3⟩:=a1m hx hbl YB (i:=0) (x:=x) rfl
 rw[show off+0*4=off by omega] at yx0 yx1 yx2 yx3
 obtain⟨ay,cy,sy,yy0,yy1,yy2,yy3⟩:=a1m hx hbl YB (i:=1) (x:=y) rfl
 rw[show off+1*4=off+4 by omega] at yy0 yy1 yy2 yy3
 rw[hcn] at hC hK
 have HM:=a0a (fun W (hW:Below (w.alloc (.cells #[.int .i64 25,.int .i64 n,.int .i64 m,.slice (some ⟨b,off,none⟩) 2 cap] 30)).heap.size (w.alloc (.cells #[.int .i64 25,.int .i64 n,.int .i64 m,.slice (some ⟨b,off,none⟩) 2 cap] 30)) W)=>a3Q x y ⟨2,0,0,[]⟩ hx_ hy (a3N 2 (.inr rfl) 0 0 []) (.slice ax x.parts.length cx) (.slice ay y.parts.length cy) (.slice none 0 0) bb C K vc vk W (sx.next hW) (sy.next hW) (CSP.leaf W ⟨by show C64 2;unfold C64;omega,by show C64 0;unfold C64;omega,by show C64 0;unfold C64;omega⟩) ((h.next YB).next hW) ((hp.next YB).next hW) hzx hzy a7x (by rw[show a0b ⟨2,0,0,[]⟩=1 from by rw[a0q];rfl];omega) (by rw[show a0b ⟨2,0,0,[]⟩=1 from by rw[a0q];rfl];omega))
 have nf:w.heap.size∉foot bb vc vk:=fun hm=>by have:=(h.ge _ hm).2;omega
 have nb:b∉foot bb vc vk:=fun hm=>by have:=(h.ge _ hm).1;omega
 have HE:Hid (a0n ⟨25,n,m,[x,y]⟩=a0s (a0n x) (a1s 24 23 (a0n y) (a0n ⟨2,0,0,[]⟩))):=a0a (by rw[a0S];unfold a2q;simp only[show ¬((25:Int)=1\/(25:Int)=2) by decide,if_false,show ¬(25:Int)=7 by decide,show ¬(25:Int)=13 by decide,if_true,show a0n ⟨2,0,0,[]⟩=a5w 0 from by rw[a0S];exact a2A _ (.inr rfl)];rfl)
 rw[HE.out]
 obtain⟨x0,x1,x2,x3⟩:=Box.c4 Y0
 have xl:=Y0.lt
 clear hs h hp hz hC hK hcn Y0 YB hx_ hy hzx hzy hx sx sy k1 k2 hbl hbb
 go_enter Tryz.func66,Tryz.ntmps66
 go_wp2_with fail
 generalize hW:(w.alloc _)=W at *
 clear hW
 go_region_held3 (fun w'=>w'.cell? ⟨w.heap.size,3,none⟩=some (.slice (some ⟨b,off,none⟩) 2 cap)/\(w'.cell? ⟨b,off,none⟩=some (.int .i64 x.op)/\w'.cell? ⟨b,off+1,none⟩=some (.int .i64 x.n)/\w'.cell? ⟨b,off+2,none⟩=some (.int .i64 x.m)/\w'.cell? ⟨b,off+3,none⟩=some (.slice ax x.parts.length cx))/\(w'.cell? ⟨b,off+4,none⟩=some (.int .i64 y.op)/\w'.cell? ⟨b,off+4+1,none⟩=some (.int .i64 y.n)/\w'.cell? ⟨b,off+4+2,none⟩=some (.int .i64 y.m)/\w'.cell? ⟨b,off+4+3,none⟩=some (.slice ay y.parts.length cy))) (simp[go_sem, *]) (first|(go_at_call 122;refine ZF (HM.out _ (by exact a1p W _)) ?_;rintro e w2 ⟨rfl,g2⟩;have gg:=fun p v hp hn hv=>(a0K.cell g2 (p:=p) hp hn).trans (hv:W.cell? p=some v);replace x1:=gg _ _ xl nf x1;replace x3:=gg _ _ xl nf x3;replace yx0:=gg _ _ hbl' nb yx0;replace yx1:=gg _ _ hbl' nb yx1;replace yx2:=gg _ _ hbl' nb yx2;replace yx3:=gg _ _ hbl' nb yx3;replace yy0:=gg _ _ hbl' nb yy0;replace yy1:=gg _ _ hbl' nb yy1;replace yy2:=gg _ _ hbl' nb yy2;replace yy3:=gg _ _ hbl' nb yy3;replace xl:w.heap.size<w2.heap.size:=ZA xl (by have hh:=a0K.size g2;exact hh);replace hbl':b<w2.heap.size:=ZA hbl' (by have hh:=a0K.size g2;exact hh);have HG:=a0a g2;clear g2 gg))
 all_goals go_wp2_with fail
 refine bodyPost_end (v:=.tuple #[]) (by simp[results,Tryz.results66,go_sem, *]) rfl ?_
 exact⟨rfl,a0K.alloc HB.out.drew HG.out HB.out.drew.size⟩
set_option maxHeartbeats 2000000 in
set_option maxRecDepth 20000 in
theorem a9e (n m:Int)(x y:Co)(hx_:a1Z x)(hy:a1Z y):a1Z ⟨26,n,m,[x,y]⟩:=by
 intro v bb C K vc vk w hs h hp hz hC hK
 have hcn:a0b ⟨26,n,m,[x,y]⟩=1+a0b x+a0b y:=by rw[a0q];simp only[a0d,a0A];omega
 have hzx:=a0M hz x (by simp)
 have hzy:=a0M hz y (by simp)
 obtain⟨b,off,cap,rfl,k1,k2,hbl,hbb,hx⟩:=hs.parts.open (by show 0<2;decide)
 obtain⟨Y0,YB⟩:=a0D w 30 [.int .i64 26,.int .i64 n,.int .i64 m,.slice (some ⟨b,off,none⟩) 2 cap]
 have HB:=a0a YB
 have hbl':=ZA hbl YB.size
 obtain⟨ax,cx,sx,yx0,yx1,yx2,yx3⟩:=a1m hx hbl YB (i:=0) (x:=x) rfl
 rw[show off+0*4=off by omega] at yx0 yx1 yx2 yx3
 obtain⟨ay,cy,sy,yy0,yy1,yy2,yy3⟩:=a1m hx hbl YB (i:=1) (x:=y) rfl
 rw[show off+1*4=off+4 by omega] at yy0 yy1 yy2 yy3
 rw[hcn] at hC hK
 have HM:=a0a (fun W (hW:Below (w.alloc (.cells #[.int .i64 26,.int .i64 n,.int .i64 m,.slice (some ⟨b,off,none⟩) 2 cap] 30)).heap.size (w.alloc (.cells #[.int .i64 26,.int .i64 n,.int .i64 m,.slice (some ⟨b,off,none⟩) 2 cap] 30)) W)=>a3Q x ⟨2,1,0,[]⟩ y hx_ (a3N 2 (.inr rfl) 1 0 []) hy (.slice ax x.parts.length cx) (.slice none 0 0) (.slice ay y.parts.length cy) bb C K vc vk W (sx.next hW) (CSP.leaf W ⟨by show C64 2;unfold C64;omega,by show C64 1;unfold C64;omega,by show C64 0;unfold C64;omega⟩) (sy.next hW) ((h.next YB).next hW) ((hp.next YB).next hW) hzx a7w hzy (by rw[show a0b ⟨2,1,0,[]⟩=1 from by rw[a0q];rfl];omega) (by rw[show a0b ⟨2,1,0,[]⟩=1 from by rw[a0q];rfl];omega))
 have nf:w.heap.size∉foot bb vc vk:=fun hm=>by have:=(h.ge _ hm).2;omega
 have nb:b∉foot bb vc vk:=fun hm=>by have:=(h.ge _ hm).1;omega
 have HE:Hid (a0n ⟨26,n,m,[x,y]⟩=a0s (a0n x) (a1s 24 23 (a0n ⟨2,1,0,[]⟩) (a0n y))):=a0a (by rw[a0S];unfold a2q;simp only[show ¬((26:Int)=1\/(26:Int)=2) by decide,if_false,show ¬(26:Int)=7 by decide,show ¬(26:Int)=13 by decide,show ¬(26:Int)=25 by decide,if_true,show a0n ⟨2,1,0,[]⟩=a5w 1 from by rw[a0S];exact a2A _ (.inr rfl)];rfl)
 rw[HE.out]
 obtain⟨x0,x1,x2,x3⟩:=Box.c4 Y0
 have xl:=Y0.lt
 clear hs h hp hz hC hK hcn Y0 YB hx_ hy hzx hzy hx sx sy k1 k2 hbl hbb
 go_enter Tryz.func66,Tryz.ntmps66
 go_wp2_with fail
 generalize hW:(w.alloc _)=W at *
 clear hW
 go_region_held3 (fun w'=>w'.cell? ⟨w.heap.size,3,none⟩=some (.slice (some ⟨b,off,none⟩) 2 cap)/\(w'.cell? ⟨b,off,none⟩=some (.int .i64 x.op)/\w'.cell? ⟨b,off+1,none⟩=some (.int .i64 x.n)/\w'.cell? ⟨b,off+2,none⟩=some (.int .i64 x.m)/\w'.cell? ⟨b,off+3,none⟩=some (.slice ax x.parts.length cx))/\(w'.cell? ⟨b,off+4,none⟩=some (.int .i64 y.op)/\w'.cell? ⟨b,off+4+1,none⟩=some (.int .i64 y.n)/\w'.cell? ⟨b,off+4+2,none⟩=some (.int .i64 y.m)/\w'.cell? ⟨b,off+4+3,none⟩=some (.slice ay y.parts.length cy))) (simp[go_sem, *]) (first|(go_at_call 122;refine ZF (HM.out _ (by exact a1p W _)) ?_;rintro e w2 ⟨rfl,g2⟩;have gg:=fun p v hp hn hv=>(a0K.cell g2 (p:=p) hp hn).trans (hv:W.cell? p=some v);replace x1:=gg _ _ xl nf x1;replace x3:=gg _ _ xl nf x3;replace yx0:=gg _ _ hbl' nb yx0;replace yx1:=gg _ _ hbl' nb yx1;replace yx2:=gg _ _ hbl' nb yx2;replace yx3:=gg _ _ hbl' nb yx3;replace yy0:=gg _ _ hbl' nb yy0;replace yy1:=gg _ _ hbl' nb yy1;replace yy2:=gg _ _ hbl' nb yy2;replace yy3:=gg _ _ hbl' nb yy3;replace xl:w.heap.size<w2.heap.size:=ZA xl (by have hh:=a0K.size g2;exact hh);replace hbl':b<w2.heap.size:=ZA hbl' (by have hh:=a0K.size g2;exact hh);have HG:=a0a g2;clear g2 gg))
 all_goals go_wp2_with fail
 refine bodyPost_end (v:=.tuple #[]) (by simp[results,Tryz.results66,go_sem, *]) rfl ?_
 exact⟨rfl,a0K.alloc HB.out.drew HG.out HB.out.drew.size⟩
set_option maxHeartbeats 2000000 in
set_option maxRecDepth 20000 in
theorem a9f (n m:Int)(x y z:Co)(hx_:a1Z x)(hy:a1Z y)(hz_:a1Z z):a1Z ⟨28,n,m,[x,y,z]⟩:=by
 intro v bb C K vc vk w hs h hp hz hC hK
 have hcn:a0b ⟨28,n,m,[x,y,z]⟩=1+a0b x+a0b y+a0b z:=by rw[a0q];simp only[a0d,a0A];omega
 have hzx:=a0M hz x (by simp)
 have hzy:=a0M hz y (by simp)
 have hzz:=a0M hz z (by simp)
 obtain⟨b,off,cap,rfl,k1,k2,hbl,hbb,hx⟩:=hs.parts.open (by show 0<3;decide)
 obtain⟨Y0,YB⟩:=a0D w 30 [.int .i64 28,.int .i64 n,.int .i64 m,.slice (some ⟨b,off,none⟩) 3 cap]
 have HB:=a0a YB
 have hbl':=ZA hbl YB.size
 obtain⟨ax,cx,sx,yx0,yx1,yx2,yx3⟩:=a1m hx hbl YB (i:=0) (x:=x) rfl
 rw[show off+0*4=off by omega] at yx0 yx1 yx2 yx3
 obtain⟨ay,cy,sy,yy0,yy1,yy2,yy3⟩:=a1m hx hbl YB (i:=1) (x:=y) rfl
 rw[show off+1*4=off+4 by omega] at yy0 yy1 yy2 yy3
 obtain⟨az,cz,sz,yz0,yz1,yz2,yz3⟩:=a1m hx hbl YB (i:=2) (x:=z) rfl
 rw[show off+2*4=off+8 by omega] at yz0 yz1 yz2 yz3
 rw[hcn] at hC hK
 have HM:=a0a (fun W (hW:Below (w.alloc (.cells #[.int .i64 28,.int .i64 n,.int .i64 m,.slice (some ⟨b,off,none⟩) 3 cap] 30)).heap.size (w.alloc (.cells #[.int .i64 28,.int .i64 n,.int .i64 m,.slice (some ⟨b,off,none⟩) 3 cap] 30)) W)=>a3Q x y z hx_ hy hz_ (.slice ax x.parts.length cx) (.slice ay y.parts.length cy) (.slice az z.parts.length cz) bb C K vc vk W (sx.next hW) (sy.next hW) (sz.next hW) ((h.next YB).next hW) ((hp.next YB).next hW) hzx hzy hzz (by omega) (by omega))
 have nf:w.heap.size∉foot bb vc vk:=fun hm=>by have:=(h.ge _ hm).2;omega
 have nb:b∉foot bb vc vk:=fun hm=>by have:=(h.ge _ hm).1;omega
 have HE:Hid (a0n ⟨28,n,m,[x,y,z]⟩=a0s (a0n x) (a1s 24 23 (a0n y) (a0n z))):=a0a (by rw[a0S];unfold a2q;simp only[show ¬((28:Int)=1\/(28:Int)=2) by decide,if_false,show ¬(28:Int)=7 by decide,show ¬(28:Int)=13 by decide,show ¬(28:Int)=25 by decide,show ¬(28:Int)=26 by decide,if_true];rfl)
 rw[HE.out]
 obtain⟨x0,x1,x2,x3⟩:=Box.c4 Y0
 have xl:=Y0.lt
 clear hs h hp hz hC hK hcn Y0 YB hx_ hy hz_ hzx hzy hzz hx sx sy sz k1 k2 hbl hbb
 go_enter Tryz.func66,Tryz.ntmps66
 go_wp2_with fail
 generalize hW:(w.alloc _)=W at *
 clear hW
 go_region_held3 (fun w'=>w'.cell? ⟨w.heap.size,3,none⟩=some (.slice (some ⟨b,off,none⟩) 3 cap)/\(w'.cell? ⟨b,off,none⟩=some (.int .i64 x.op)/\w'.cell? ⟨b,off+1,none⟩=some (.int .i64 x.n)/\w'.cell? ⟨b,off+2,none⟩=some (.int .i64 x.m)/\w'.cell? ⟨b,off+3,none⟩=some (.slice ax x.parts.length cx))/\(w'.cell? ⟨b,off+4,none⟩=some (.int .i64 y.op)/\w'.cell? ⟨b,off+4+1,none⟩=some (.int .i64 y.n)/\w'.cell? ⟨b,off+4+2,none⟩=some (.int .i64 y.m)/\w'.cell? ⟨b,off+4+3,none⟩=some (.slice ay y.parts.length cy))/\(w'.cell? ⟨b,off+8,none⟩=some (.int .i64 z.op)/\w'.cell? ⟨b,off+8+1,none⟩=some (.int .i64 z.n)/\w'.cell? ⟨b,off+8+2,none⟩=some (.int .i64 z.m)/\w'.cell? ⟨b,off+8+3,none⟩=some (.slice az z.parts.length cz))) (simp[go_sem, *]) (first|(go_at_call 122;refine ZF (HM.out _ (by exact a1p W _)) ?_;rintro e w2 ⟨rfl,g2⟩;have gg:=fun p v hp hn hv=>(a0K.cell g2 (p:=p) hp hn).trans (hv:W.cell? p=some v);replace x1:=gg _ _ xl nf x1;replace x3:=gg _ _ xl nf x3;replace yx0:=gg _ _ hbl' nb yx0;replace yx1:=gg _ _ hbl' nb yx1;replace yx2:=gg _ _ hbl' nb yx2;replace yx3:=gg _ _ hbl' nb yx3;replace yy0:=gg _ _ hbl' nb yy0;replace yy1:=gg _ _ hbl' nb yy1;replace yy2:=gg _ _ hbl' nb yy2;replace yy3:=gg _ _ hbl' nb yy3;replace yz0:=gg _ _ hbl' nb yz0;replace yz1:=gg _ _ hbl' nb yz1;replace yz2:=gg _ _ hbl' nb yz2;replace yz3:=gg _ _ hbl' nb yz3;replace xl:w.heap.size<w2.heap.size:=ZA xl (by have hh:=a0K.size g2;exact hh);replace hbl':b<w2.heap.size:=ZA hbl' (by have hh:=a0K.size g2;exact hh);have HG:=a0a g2;clear g2 gg))
 all_goals go_wp2_with fail
 refine bodyPost_end (v:=.tuple #[]) (by simp[results,Tryz.results66,go_sem, *]) rfl ?_
 exact⟨rfl,a0K.alloc HB.out.drew HG.out HB.out.drew.size⟩
set_option maxHeartbeats 2000000 in
set_option maxRecDepth 20000 in
theorem a4M (n m:Int)(x y:Co)(hx_:a1Z x)(hy:a1Z y):a1Z ⟨27,n,m,[x,y]⟩:=by
 intro v bb C K vc vk w hs h hp hz hC hK
 have hcn:a0b ⟨27,n,m,[x,y]⟩=1+a0b x+a0b y:=by rw[a0q];simp only[a0d,a0A];omega
 have hzx:=a0M hz x (by simp)
 have hzy:=a0M hz y (by simp)
 obtain⟨b,off,cap,rfl,k1,k2,hbl,hbb,hx⟩:=hs.parts.open (by show 0<2;decide)
 obtain⟨Y0,YB⟩:=a0D w 30 [.int .i64 27,.int .i64 n,.int .i64 m,.slice (some ⟨b,off,none⟩) 2 cap]
 have HB:=a0a YB
 have hbl':=ZA hbl YB.size
 obtain⟨ax,cx,sx,yx0,yx1,yx2,yx3⟩:=a1m hx hbl YB (i:=0) (x:=x) rfl
 rw[show off+0*4=off by omega] at yx0 yx1 yx2 yx3
 obtain⟨ay,cy,sy,yy0,yy1,yy2,yy3⟩:=a1m hx hbl YB (i:=1) (x:=y) rfl
 rw[show off+1*4=off+4 by omega] at yy0 yy1 yy2 yy3
 rw[hcn] at hC hK
 have HM:=a0a (fun W (hW:Below (w.alloc (.cells #[.int .i64 27,.int .i64 n,.int .i64 m,.slice (some ⟨b,off,none⟩) 2 cap] 30)).heap.size (w.alloc (.cells #[.int .i64 27,.int .i64 n,.int .i64 m,.slice (some ⟨b,off,none⟩) 2 cap] 30)) W)=>a7R x y hx_ hy (.slice ax x.parts.length cx) (.slice ay y.parts.length cy) bb C K vc vk W (sx.next hW) (sy.next hW) ((h.next YB).next hW) ((hp.next YB).next hW) hzx hzy (by omega) (by omega))
 have nf:w.heap.size∉foot bb vc vk:=fun hm=>by have:=(h.ge _ hm).2;omega
 have nb:b∉foot bb vc vk:=fun hm=>by have:=(h.ge _ hm).1;omega
 have HE:Hid (a0n ⟨27,n,m,[x,y]⟩=a1s 25 26 (a0n x) (a0n y)):=a0a (by rw[a0S];unfold a2q;simp only[show ¬((27:Int)=1\/(27:Int)=2) by decide,if_false,show ¬(27:Int)=7 by decide,show ¬(27:Int)=13 by decide,show ¬(27:Int)=25 by decide,show ¬(27:Int)=26 by decide,show ¬(27:Int)=28 by decide,if_true];rfl)
 rw[HE.out]
 obtain⟨x0,x1,x2,x3⟩:=Box.c4 Y0
 have xl:=Y0.lt
 clear hs h hp hz hC hK hcn Y0 YB hx_ hy hzx hzy hx sx sy k1 k2 hbl hbb
 go_enter Tryz.func66,Tryz.ntmps66
 go_wp2_with fail
 generalize hW:(w.alloc _)=W at *
 clear hW
 go_region_held3 (fun w'=>w'.cell? ⟨w.heap.size,3,none⟩=some (.slice (some ⟨b,off,none⟩) 2 cap)/\(w'.cell? ⟨b,off,none⟩=some (.int .i64 x.op)/\w'.cell? ⟨b,off+1,none⟩=some (.int .i64 x.n)/\w'.cell? ⟨b,off+2,none⟩=some (.int .i64 x.m)/\w'.cell? ⟨b,off+3,none⟩=some (.slice ax x.parts.length cx))/\(w'.cell? ⟨b,off+4,none⟩=some (.int .i64 y.op)/\w'.cell? ⟨b,off+4+1,none⟩=some (.int .i64 y.n)/\w'.cell? ⟨b,off+4+2,none⟩=some (.int .i64 y.m)/\w'.cell? ⟨b,off+4+3,none⟩=some (.slice ay y.parts.length cy))) (simp[go_sem, *]) (first|(go_at_call 123;refine ZF (HM.out _ (by exact a1p W _)) ?_;rintro e w2 ⟨rfl,g2⟩;have gg:=fun p v hp hn hv=>(a0K.cell g2 (p:=p) hp hn).trans (hv:W.cell? p=some v);replace x1:=gg _ _ xl nf x1;replace x3:=gg _ _ xl nf x3;replace yx0:=gg _ _ hbl' nb yx0;replace yx1:=gg _ _ hbl' nb yx1;replace yx2:=gg _ _ hbl' nb yx2;replace yx3:=gg _ _ hbl' nb yx3;replace yy0:=gg _ _ hbl' nb yy0;replace yy1:=gg _ _ hbl' nb yy1;replace yy2:=gg _ _ hbl' nb yy2;replace yy3:=gg _ _ hbl' nb yy3;replace xl:w.heap.size<w2.heap.size:=ZA xl (by have hh:=a0K.size g2;exact hh);replace hbl':b<w2.heap.size:=ZA hbl' (by have hh:=a0K.size g2;exact hh);have HG:=a0a g2;clear g2 gg))
 all_goals go_wp2_with fail
 refine bodyPost_end (v:=.tuple #[]) (by simp[results,Tryz.results66,go_sem, *]) rfl ?_
 exact⟨rfl,a0K.alloc HB.out.drew HG.out HB.out.drew.size⟩
set_option maxHeartbeats 2000000 in
set_option maxRecDepth 20000 in
theorem a4L (n m:Int)(P:List Co)(ih:∀ x,x∈P->a1Z x)(q:Nat)(hq:P.length=2*q+2):a1Z ⟨32,n,m,P⟩:=by
 intro v bb C K vc vk w hs h hp hz hC hK
 have hcn:a0b ⟨32,n,m,P⟩=1+a0f P:=a0q _
 obtain⟨ad,cap,rfl,k1,k2⟩:=hs.parts.shape
 obtain⟨Y0,YB⟩:=a0D w 30 [.int .i64 32,.int .i64 n,.int .i64 m,.slice ad P.length cap]
 have HB:=a0a YB
 rw[hcn] at hC hK
 obtain⟨a,r,hP⟩:∃ a r,P=a::r:=by
  cases P with
  | nil=>simp at hq
  | cons a r=>exact⟨a,r,rfl⟩
 have hcp:∀ W,Below (w.alloc (.cells #[.int .i64 32,.int .i64 n,.int .i64 m,.slice ad P.length cap] 30)).heap.size (w.alloc (.cells #[.int .i64 32,.int .i64 n,.int .i64 m,.slice ad P.length cap] 30)) W->CAP (fun b=>b<bb) W (.slice ad P.length cap) P:=fun W hW=>((hs.next YB).next hW).parts
 have HM:=a0a (fun W (hW:Below (w.alloc (.cells #[.int .i64 32,.int .i64 n,.int .i64 m,.slice ad P.length cap] 30)).heap.size (w.alloc (.cells #[.int .i64 32,.int .i64 n,.int .i64 m,.slice ad P.length cap] 30)) W)=>a6s P ih q hq (.slice ad P.length cap) bb C K vc vk W (hcp W hW) ((h.next YB).next hW) ((hp.next YB).next hW) (a0M hz) hC hK a r hP)
 have HE:Hid (a0n ⟨32,n,m,P⟩=a0s (a0n a) (a0U (rgL r))):=a0a (by
  rw[a0S]
  unfold a2q
  simp only[show ¬((32:Int)=1\/(32:Int)=2) by decide,show ¬(32:Int)=7 by decide,show ¬(32:Int)=13 by decide,show ¬(32:Int)=25 by decide,show ¬(32:Int)=26 by decide,show ¬(32:Int)=28 by decide,show ¬(32:Int)=27 by decide,if_false,if_true]
  rw[a5X,hP]
  rfl)
 rw[HE.out]
 obtain⟨x0,x1,x2,x3⟩:=Box.c4 Y0
 have xl:=Y0.lt
 have HPl:Hid (P=a::r):=a0a hP
 clear hs h hp hz hC hK hcn Y0 YB k1 k2 ih hq hcp hP
 go_enter Tryz.func66,Tryz.ntmps66
 go_wp2_with fail
 generalize hW:(w.alloc _)=W at *
 clear hW
 refine ZF (HM.out W (ZE _ _)) ?_
 rintro e w2 ⟨rfl,g2⟩
 have HG:=a0a g2
 clear g2 x0 x1 x2 x3 xl
 go_wp2_with fail
 refine bodyPost_end (v:=.tuple #[]) (by simp[results,Tryz.results66,go_sem, *]) rfl ?_
 exact⟨rfl,a0K.alloc HB.out HG.out HB.out.size⟩
set_option maxHeartbeats 2000000 in
set_option maxRecDepth 20000 in
theorem a5M (n m:Int)(y:Co)(hy:a1Z y):a1Z ⟨13,n,m,[y]⟩:=by
 intro v bb C K vc vk w hs h hp hz hC hK
 have hcn:a0b ⟨13,n,m,[y]⟩=1+a0b y:=by rw[a0q];simp only[a0d,a0A];omega
 have hzy:=a0M hz y (by simp)
 obtain⟨b,off,cap,rfl,k1,k2,hbl,hbb,hx⟩:=hs.parts.open (by show 0<1;decide)
 obtain⟨Y0,YB⟩:=a0D w 30 [.int .i64 13,.int .i64 n,.int .i64 m,.slice (some ⟨b,off,none⟩) 1 cap]
 have HB:=a0a YB
 have H0:=a0a (Wk.start (h.next YB))
 have hbl':=ZA hbl YB.size
 obtain⟨ay,cy,sy,yy0,yy1,yy2,yy3⟩:=a1m hx hbl YB (i:=0) (x:=y) rfl
 rw[show off+0*4=off by omega] at yy0 yy1 yy2 yy3
 rw[hcn] at hC hK
 obtain⟨A,K1,hA⟩:∃ A K1,Hid (a0n y K=(A,K1)):=⟨_,_,a0a rfl⟩
 have HL:Hid (A.length<=6*a0b y/\K1.length<=K.length+2*a0b y):=a0a (by
  have h2:=a1E y K
  rw[hA.out] at h2
  exact h2)
 have HN:=a0a (And.intro hC hK)
 have HM:=a0a (fun W (hW:Below (w.alloc (.cells #[.int .i64 13,.int .i64 n,.int .i64 m,.slice (some ⟨b,off,none⟩) 1 cap] 30)).heap.size (w.alloc (.cells #[.int .i64 13,.int .i64 n,.int .i64 m,.slice (some ⟨b,off,none⟩) 1 cap] 30)) W)=>hy (.slice ay y.parts.length cy) bb C K vc vk W (sy.next hW) ((h.next YB).next hW) ((hp.next YB).next hW) hzy (by omega) (by omega))
 have HNF:Hid (w.heap.size∉foot bb vc vk):=a0a (fun hm=>by have:=(h.ge _ hm).2;omega)
 have HE:Hid (a0n ⟨13,n,m,[y]⟩=a0s (a0n y) (a8x n m)):=a0a (by rw[a0S];unfold a2q;simp only[show ¬((13:Int)=1\/(13:Int)=2) by decide,show ¬(13:Int)=7 by decide,if_false,if_true];rfl)
 have HE2:Hid (a0s (a0n y) (a8x n m) K=(cat A [(11,(a1u K1 n m:Nat))],a1X K1 n m)):=a0a (by unfold a0s a8x;simp only[hA.out])
 rw[HE.out,HE2.out]
 have HY:=a0a Y0
 obtain⟨x0,x1,x2,x3⟩:=Box.c4 Y0
 have xl:=Y0.lt
 clear hs h hp hz hC hK hcn Y0 YB hy hzy hx sy k1 k2 hbl hbb
 go_enter Tryz.func66,Tryz.ntmps66
 go_wp2_with fail
 generalize hW:(w.alloc _)=W at *
 clear hW
 refine ZF (HM.out W (ZE _ _)) ?_
 rintro e w2 ⟨rfl,g2⟩
 rw[hA.out] at g2
 obtain⟨vc1,vk1,k1,-⟩:=H0.out.went g2
 have H1:=a0a k1
 have Y2:=HY.out.turn k1.turn HNF.out
 clear g2 k1 x0 x1 x2 x3 xl yy0 yy1 yy2 yy3
 have x1:=Y2.cell 1 _ rfl
 have x2:=Y2.cell 2 _ rfl
 have xl:=Y2.lt
 clear Y2
 go_wp2_with fail
 refine ZF (a8L bb (cat C A) K1 vc1 vk1 n m w2 H1.out.bd (by have:=HN.out;have:=HL.out;omega)) ?_
 rintro e w3 ⟨rfl,g3⟩
 obtain⟨vc3,vk3,k3,-⟩:=H1.out.went g3
 have H3:=a0a k3
 clear g3 k3 x1 x2 xl
 go_wp2_with fail
 refine ZF (H3.out.lay1 11 (a1u K1 n m:Nat) (by rw[a0h];have:=HN.out;have:=HL.out;omega)) ?_
 rintro e w4 ⟨rfl,vc4,vk4,k4,-⟩
 have H4:=a0a k4
 clear k4
 go_wp2_with fail
 refine bodyPost_end (v:=.tuple #[]) (by simp[results,Tryz.results66,go_sem, *]) rfl ?_
 have g:=a0K.alloc HB.out H4.out.done HB.out.size
 rw[a1Q _ 11 _ rfl,a1i] at g
 exact⟨rfl,g⟩
theorem a4r (a b c:Mk):a0s (a0s a b) c=a0s a (a0s b c):=by
 funext K
 simp only[a0s,a1i]
theorem a6k (a:Mk):a0s (a1k []) a=a:=by
 funext K
 show (cat [] (a K).1,(a K).2)=a K
 rw[a6l]
theorem a5Y (a:Mk):a0s a (a1k [])=a:=by
 funext K
 show (cat (a K).1 [],(a K).2)=a K
 rw[a4Q]
theorem a4l (m:Mk):∀ l:List Mk,a1k (l++[m])=a0s (a1k l) m
 | []=>by
   show a0s m (a1k [])=_
   rw[a5Y,a6k]
 | a::r=>by
   show a0s a (a1k (r++[m]))=a0s (a0s a (a1k r)) m
   rw[a4l m r,a4r]
def a5r (k:Nat):Bool:=decide (3<=k)&&decide (k<=31)&&k != 7&&k != 13&&k != 25&&k != 26&&k != 27&&k != 28
theorem a9A:∀ k:Fin 32,a5r k.val=true->([0,0,0,2,3,4,5,0,6,7,8,9,10,0,12,13,14,15,16,17,18,19,20,21,22,0,0,0,0,29,30,31]:List Int)[k.val]? = some (a4V (k.val:Int))/\a3F (a4V (k.val:Int))=false:=by decide
theorem b0b {k:Nat}(h:a5r k=true):poT[k]? = some (.int .i64 (a4V k))/\a3F (a4V k)=false:=by
 have hk:k<32:=by
  unfold a5r at h
  simp only[Bool.and_eq_true,decide_eq_true_eq] at h
  omega
 obtain⟨h1,h2⟩:=a9A ⟨k,hk⟩ h
 refine⟨?_,h2⟩
 unfold poT
 rw[List.getElem?_map,h1]
 rfl
set_option maxHeartbeats 2000000 in
set_option maxRecDepth 20000 in
theorem a6M (k:Nat)(hk:a5r k=true)(n m:Int)(P:List Co)(ih:∀ x,x∈P->a1Z x):a1Z ⟨k,n,m,P⟩:=by
 intro v bb C K vc vk w hs h hp hz hC hK
 have hcn:a0b ⟨k,n,m,P⟩=1+a0f P:=a0q _
 have hk':=hk
 unfold a5r at hk'
 simp only[Bool.and_eq_true,decide_eq_true_eq,bne_iff_ne,ne_eq] at hk'
 obtain⟨⟨⟨⟨⟨⟨⟨h3,h31⟩,h7⟩,h13⟩,h25⟩,h26⟩,h27⟩,h28⟩:=hk'
 obtain⟨ad,cap,rfl,k1,k2⟩:=hs.parts.shape
 obtain⟨Y0,YB⟩:=a0D w 30 [.int .i64 k,.int .i64 n,.int .i64 m,.slice ad P.length cap]
 have HB:=a0a YB
 have HY:=a0a Y0
 have H0:=a0a (Wk.start (h.next YB))
 have HP:=a0a (hp.next YB)
 rw[hcn] at hC hK
 have HN:=a0a (And.intro hC hK)
 have HF:Hid (∀ i,i∈foot bb vc vk->bb<=i/\i<w.heap.size):=a0a h.ge
 have HCA:=a0a ((hs.next YB).parts)
 have HI:=a0a ih
 have HZ:Hid (∀ x,x∈P->sM x≠0):=a0a (a0M hz)
 have HE:Hid (a0n ⟨k,n,m,P⟩=a0s (a1k (P.map a0n)) (a5e (a4V k) n)):=a0a (by rw[a0S];exact a1F _ ⟨by show (k:Int)≠1;omega,by show (k:Int)≠2;omega,by show (k:Int)≠7;omega,by show (k:Int)≠13;omega,by show (k:Int)≠25;omega,by show (k:Int)≠26;omega,by show (k:Int)≠28;omega,by show (k:Int)≠27;omega,by show (k:Int)≠32;omega⟩)
 have HJ:=a0a (b0b hk)
 rw[HE.out]
 obtain⟨N,hN⟩:∃ N,Hid (N=P.length):=⟨_,a0a rfl⟩
 rw[<-hN.out] at Y0 HY HB H0 HP HCA k1 ⊢
 obtain⟨x0,x1,x2,x3⟩:=Box.c4 Y0
 have xl:=Y0.lt
 have t1:((k:Int)==1)=false:=by simp;omega
 have t2:((k:Int)==2)=false:=by simp;omega
 have t3:((k:Int)==7)=false:=by simp;omega
 have t4:((k:Int)==13)=false:=by simp;omega
 have t5:((k:Int)==25)=false:=by simp;omega
 have t6:((k:Int)==26)=false:=by simp;omega
 have t7:((k:Int)==28)=false:=by simp;omega
 have t8:((k:Int)==27)=false:=by simp;omega
 have t9:((k:Int)==32)=false:=by simp;omega
 clear hs h hp hz hC hK hcn Y0 YB k1 k2 ih hk h7 h13 h25 h26 h27 h28
 have Hk3:Hid (3<=k/\k<=31):=a0a ⟨h3,h31⟩
 clear h3 h31
 go_enter Tryz.func66,Tryz.ntmps66
 go_wp2_with fail
 generalize hW:(w.alloc _)=W at *
 clear hW
 have HNF:Hid (∀ i,w.heap.size<=i->i∉foot bb vc vk):=a0a (fun i hi hm=>by have:=(HF.out i hm).2;omega)
 have HSt:Hid (Wk bb (foot bb vc vk) W (cat C (a1k ((P.take 0).map a0n) K).1) (a1k ((P.take 0).map a0n) K).2 vc vk W):=a0a (by
  have h:=H0.out
  show Wk bb _ W (cat C []) K vc vk W
  rw[a4Q]
  exact h)
 have hNs:N<=900000:=by have:=HN.out;have:=a1c P;have:=hN.out;omega
 clear x0 x1 x2 x3 xl
 go_loopw [11] (fun i wr=>∃ (j:Nat) (vd vl:Value),i=.int .i64 (j:Nat)/\j<=N/\Hid (Wk bb (foot bb vc vk) W (cat C (a1k ((P.take j).map a0n) K).1) (a1k ((P.take j).map a0n) K).2 vd vl wr)) (fun i _=>match i with | .int _ z=>((N:Int)-z).toNat | _=>0)
 case atStart=>exact⟨0,vc,vk,rfl,Nat.zero_le _,HSt⟩
 case round=>
  obtain⟨j,vd,vl,rfl,hj,HW⟩:=hrel
  by_cases hlt:j<N
  ·have hlt':(j:Int)<(N:Int):=by omega
   have hjl:j<P.length:=by rw[<-hN.out];exact hlt
   have HLn:Hid ((a1k ((P.take j).map a0n) K).1.length<=6*a0f (P.take j)/\(a1k ((P.take j).map a0n) K).2.length<=K.length+2*a0f (P.take j)/\a0f P=a0f (P.take j)+(a0b P[j]+a0f (P.drop (j+1)))):=a0a (by
    have h:=a3V (P.take j) (fun x _=>a1E x) K
    refine⟨h.1,h.2,?_⟩
    conv=>lhs;rw[<-List.take_append_drop j P,a1e,List.drop_eq_getElem_cons hjl,a0d])
   have HTk:Hid ((P.take (j+1)).map a0n=(P.take j).map a0n++[a0n P[j]]):=a0a (by rw[List.take_succ_eq_append_getElem hjl,List.map_append];rfl)
   obtain⟨b,off,cap',hv,-,-,hbl,hbb,hx⟩:=HCA.out.open (by omega)
   simp only[Value.slice.injEq] at hv
   obtain⟨rfl,-,rfl⟩:=hv
   obtain⟨u,f,sx⟩:=hx j hjl
   obtain⟨ax,cx,rfl,-,-⟩:=sx.parts.shape
   have hbn:b∉foot bb vc vk:=fun hm=>by have:=(HF.out _ hm).1;omega
   have kp:=fun q=>a1V HW.out.turn (j:=q) hbl hbn
   obtain⟨y0,y1,y2,y3⟩:=f.keep kp
   have lb:b<wr.heap.size:=ZA hbl HW.out.turn.size
   have HIx:=a0a (And.intro (HI.out _ (List.getElem_mem hjl)) (HZ.out _ (List.getElem_mem hjl)))
   have HSx:=a0a (HW.out.core (fun i hi=>(HF.out i hi).1) sx)
   have HPw:=a0a (HW.out.po (fun i hi=>(HF.out i hi).1) HP.out)
   clear hx f sx kp hbl hbb hbn
   generalize P[j]=x at *
   have ba:=(ZE wr.heap.size wr).alloc (ZC _) (.cells #[.int .i64 x.op,.int .i64 x.n,.int .i64 x.m,.slice ax x.parts.length cx] 30)
   have HA:=a0a (HW.out.next ba)
   replace HSx:=a0a (HSx.out.next ba)
   replace HPw:=a0a (HPw.out.next ba)
   clear ba
   go_wp2_with fail
   refine ZF (HIx.out.1 _ bb _ _ vd vl _ HSx.out HA.out.bd HPw.out HIx.out.2 (by rw[a0h];have:=HLn.out;have:=HN.out;omega) (by have:=HLn.out;have:=HN.out;omega)) ?_
   rintro e w2 ⟨rfl,g2⟩
   obtain⟨vd2,vl2,k2,-⟩:=HA.out.went g2
   have H2:Hid (Wk bb (foot bb vc vk) W (cat C (a1k ((P.take (j+1)).map a0n) K).1) (a1k ((P.take (j+1)).map a0n) K).2 vd2 vl2 w2):=a0a (by
    rw[HTk.out,a4l]
    show Wk bb _ W (cat C (cat _ _)) _ vd2 vl2 w2
    rw[<-a1i]
    exact k2)
   clear g2 k2 HA HSx HPw HIx HTk HLn HW y0 y1 y2 y3 lb
   go_wp2_with fail
   go_roundw
   case rel=>exact⟨j+1,vd2,vl2,by go_num,by omega,H2⟩
   case measure=>simp;omega
  ·have hlt':¬(j:Int)<(N:Int):=by omega
   obtain rfl:j=N:=by omega
   have Y:=HY.out.turn HW.out.turn (HNF.out _ (ZC _))
   obtain⟨x0,x1⟩:=Box.c2 Y
   have xl:=Y.lt
   have HLn:Hid ((cat C (a1k ((P.take j).map a0n) K).1).length+1<=1000000):=a0a (by
    have h:=(a3V (P.take j) (fun x _=>a1E x) K).1
    have h2:P.take j=P:=by rw[hN.out,List.take_length]
    rw[h2] at h ⊢
    rw[a0h]
    have:=HN.out
    omega)
   have hpo:=HW.out.po (fun i hi=>(HF.out i hi).1) HP.out
   obtain⟨pk,hpk⟩:∃ pk,Hid (pk=a4V (k:Int)):=⟨_,a0a rfl⟩
   rw[<-hpk.out] at HJ
   have p0:=hpo.at' k _ HJ.out.1
   have pl:=hpo.lw
   have hk32:(k:Int)<32:=by have:=Hk3.out;omega
   have HLy:=a0a (fun W' (hW':Below wr.heap.size wr W')=>(HW.out.next hW').lay1 pk n HLn.out)
   clear hpo Y
   go_wp2_with fail
   go_region_held3 (fun w'=>(w'.cell? ⟨w.heap.size,0,none⟩=some (.int .i64 k)/\w'.cell? ⟨w.heap.size,1,none⟩=some (.int .i64 n))/\w'.cell? ⟨0,k,none⟩=some (.int .i64 pk)) (simp[go_sem, *]) (first|(go_at_call 118;refine ZF (HLy.out wr.drew (ZE _ _).drew) ?_;rintro e w2 ⟨rfl,vd2,vl2,k2,s2⟩;have H2:=a0a k2;have Y2:=HY.out.turn k2.turn (HNF.out _ (ZC _));have hp2:=k2.po (fun i hi=>(HF.out i hi).1) HP.out;replace x0:=Y2.cell 0 _ rfl;replace x1:=Y2.cell 1 _ rfl;replace xl:=Y2.lt;replace p0:=hp2.at' k _ HJ.out.1;replace pl:=hp2.lw;clear Y2 hp2 k2 s2))
   all_goals go_wp2_with fail
   refine bodyPost_end (v:=.tuple #[]) (by simp[results,Tryz.results66,go_sem, *]) rfl ?_
   have g:=a0K.alloc HB.out H2.out.done HB.out.size
   have h2:P.take j=P:=by rw[hN.out,List.take_length]
   rw[a1Q _ pk n HJ.out.2,a1i,h2] at g
   rw[hpk.out] at g
   exact⟨rfl,g⟩
theorem a4N (t:Co):a1Z t:=by
 induction t using Co.ind with
 | h t ih=>
   intro v bb C K vc vk w hs h hp hz hC hK
   suffices hh:a1Z t from hh v bb C K vc vk w hs h hp hz hC hK
   clear hs h hp hC hK
   obtain⟨k,hop,h1,h2,-,-,hs⟩:=a6a hz
   obtain⟨o,n,m,P⟩:=t
   have hop':o=(k:Int):=hop
   subst hop'
   have hr:(3<=k/\k<=31/\k≠7/\k≠13/\k≠25/\k≠26/\k≠27/\k≠28)->a1Z ⟨(k:Int),n,m,P⟩:=fun hk=>a6M k (by
    unfold a5r
    simp only[Bool.and_eq_true,decide_eq_true_eq,bne_iff_ne,ne_eq]
    omega) n m P ih
   rcases hs with ⟨hk,hps⟩ | ⟨hk,-,x,hps,-⟩ | ⟨hk,-,x,hps,-⟩ | ⟨hk,-,x,y,hps,-⟩ | ⟨hk,-,x,y,hps,-⟩ | ⟨hk,-,x,y,hps,-⟩ | ⟨hk,-,x,y,z,hps,-⟩ | ⟨hk,-,x,hps,-⟩ | ⟨hk,-,hl⟩
   ·by_cases h12:k=1\/k=2
    ·exact a3N k (by omega) n m P
    ·exact hr (by omega)
   ·have e:P=[x]:=hps
    subst e hk
    exact a6N n m x (ih x (by simp))
   ·by_cases h13:k=13
    ·have e:P=[x]:=hps
     subst e h13
     exact a5M n m x (ih x (by simp))
    ·exact hr (by omega)
   ·exact hr (by omega)
   ·have e:P=[x,y]:=hps
    subst e
    rcases hk with rfl | rfl
    ·exact a7V n m x y (ih x (by simp)) (ih y (by simp))
    ·exact a9e n m x y (ih x (by simp)) (ih y (by simp))
   ·have e:P=[x,y]:=hps
    subst e hk
    exact a4M n m x y (ih x (by simp)) (ih y (by simp))
   ·have e:P=[x,y,z]:=hps
    subst e hk
    exact a9f n m x y z (ih x (by simp)) (ih y (by simp)) (ih z (by simp))
   ·exact hr (by omega)
   ·subst hk
    obtain⟨l2,lm,-⟩:=hl
    rw[List.length_map] at l2 lm
    have l2':2<=P.length:=l2
    have lm':P.length%2=0:=lm
    exact a4L n m P ih (P.length/2-1) (by omega)
theorem a0p.low {w w':World}{bb:Nat}{t:Co}{v:Value}(h:a0p w t v)(hb:w.heap.size<=bb)(k:Below w.heap.size w w'):CSP (fun b=>b<bb) w' t v:=
 (((CSP.ofSits t v h).weak (ok':=fun b=>b<bb) (fun b h1 _=>by omega)).next k)
def gN (l:List (Co×Co)):Nat:=((l.map a1v).flatten).length
theorem a4D (g:Co×Co)(r:List (Co×Co)):gN (g::r)=a0b g.1+a0b g.2+gN r:=by
 unfold gN a1v a0b
 simp only[List.map_cons,List.flatten_cons,List.length_append]
theorem a5s (g:Co×Co)(r:List (Co×Co))(f:Co)(C:List Ins)(K K1 K2:List Int)(A B:List Ins)(hA:a0n g.1 K=(A,K1))(hB:a0n g.2 K1=(B,K2)):
 cat C (a1g (g::r) f K).1=cat ((cat (cat C A++[(24,0)]) B).set (cat C A).length (24,(0:Int)+((cat (cat C A++[(24,0)]) B).length:Int))) (a1g r f K2).1/\(a1g (g::r) f K).2=(a1g r f K2).2:=by
 have e:a1g (g::r) f K=(cat (cat A (cat (cat [((24:Int),(0:Int)+(((B.length+1+([]:List Ins).length:Nat)):Int))] B) [])) (a1g r f K2).1,(a1g r f K2).2):=by
  rw[a1g]
  unfold a0s a2f
  simp only[hA,hB]
 rw[e]
 refine⟨?_,rfl⟩
 have h:=a2J (cat C A) B [] 24 0 rfl (fun x hx=>by cases hx)
 rw[List.append_nil] at h
 rw[h]
 simp only[a1i]
set_option maxHeartbeats 4000000 in
set_option maxRecDepth 20000 in
theorem a8K (p:PlP)(v:PlV)(w0:World)(hs:a3a w0 p v)(bb:Nat)(C:List Ins)(K:List Int)(vc vk:Value)(w:World)(hk:Below w0.heap.size w0 w)(hbb:w0.heap.size<=bb)(h:Bd w bb C K vc vk)(hp:a4m w bb)
 (hz:∀ g,g∈p.gs->sM g.1≠0/\sM g.2≠0) (hzf:sM p.fin≠0) (hC:C.length+8*(gN p.gs+a0b p.fin)<=900000) (hK:K.length+2*(gN p.gs+a0b p.fin)<=900000) :
 Calls Tryz.prog 34 #[.pointer (some ⟨bb,0,none⟩),plV p v] w fun e w'=>e=.returned (.tuple #[])/\a0K bb (foot bb vc vk) w (cat C (a1g p.gs p.fin K).1) (a1g p.gs p.fin K).2 w':=by
 obtain⟨ru,loc,wok,cok,me,wi,cr,gs,fi⟩:=hs
 obtain⟨a1,c1,e1,-,-⟩:=a0u.shape me
 obtain⟨a2,c2,e2,-,-⟩:=a0u.shape wi
 obtain⟨a3,c3,e3,-,-⟩:=a0u.shape cr
 obtain⟨a4,c4,e4,q1,q2⟩:=gs.shape
 obtain⟨a5,c5,e5,-,-⟩:=fi.parts.shape
 obtain⟨me',wi',cr',gs',fi'⟩:=v
 simp only at e1 e2 e3 e4 e5
 subst e1 e2 e3 e4 e5
 obtain⟨N,hN⟩:∃ N,Hid (N=p.gs.length):=⟨_,a0a rfl⟩
 rw[<-hN.out] at q1 gs ⊢
 obtain⟨Y0,YB⟩:=a0D w 32 (plL p ⟨.slice a1 p.mets.length c1,.slice a2 p.wins.length c2,.slice a3 p.crons.length c3,.slice a4 N c4,.slice a5 p.fin.parts.length c5⟩)
 have HY:=a0a Y0
 have HB:=a0a YB
 have H0:=a0a (Wk.start (h.next YB))
 have HP:=a0a (hp.next YB)
 have HF:Hid (∀ i,i∈foot bb vc vk->bb<=i/\i<w.heap.size):=a0a h.ge
 have HN:=a0a (And.intro hC hK)
 have HZ:=a0a (And.intro hz hzf)
 have HK0:=a0a (a0c hk YB hk.size)
 have HG:=a0a gs
 have HFi:=a0a fi
 have HBB:=a0a hbb
 obtain⟨T,KT,hT⟩:∃ T KT,Hid (cat C (a1g p.gs p.fin K).1=T/\(a1g p.gs p.fin K).2=KT):=⟨_,_,a0a ⟨rfl,rfl⟩⟩
 rw[hT.out.1,hT.out.2]
 have x9:=Y0.cell 9 _ rfl
 have xl:=Y0.lt
 clear ru loc wok cok me wi cr gs fi h hp hz hzf hC hK hk hbb Y0 YB
 go_enter Tryz.func34,Tryz.ntmps34
 go_wp2_with fail
 generalize hW:(w.alloc _)=W at *
 clear hW
 have HNF:Hid (∀ i,w.heap.size<=i->i∉foot bb vc vk):=a0a (fun i hi hm=>by have:=(HF.out i hm).2;omega)
 have HSt:Hid (cat C (a1g (p.gs.drop 0) p.fin K).1=T/\(a1g (p.gs.drop 0) p.fin K).2=KT):=a0a hT.out
 have HC0:Hid (C.length+8*(gN (p.gs.drop 0)+a0b p.fin)<=900000/\K.length+2*(gN (p.gs.drop 0)+a0b p.fin)<=900000):=a0a HN.out
 have hNs:N<=900000:=by
  have h1:=HN.out.1
  have h2:p.gs.length<=gN p.gs:=by
   clear h1 HC0 HSt HG HFi HN HZ hN hT HY
   generalize p.gs=l
   induction l with
   | nil=>simp
   | cons g r ih=>rw[a4D,List.length_cons];have:=a0m g.1;omega
  have:=hN.out
  omega
 clear hT x9 xl
 go_loopw [10] (fun i wr=>∃ (j:Nat) (D:List Ins) (L:List Int) (vd vl:Value),i=.int .i64 (j:Nat)/\j<=N/\Hid (Wk bb (foot bb vc vk) W D L vd vl wr)/\Hid (cat D (a1g (p.gs.drop j) p.fin L).1=T/\(a1g (p.gs.drop j) p.fin L).2=KT)/\Hid (D.length+8*(gN (p.gs.drop j)+a0b p.fin)<=900000/\L.length+2*(gN (p.gs.drop j)+a0b p.fin)<=900000)) (fun i _=>match i with | .int _ z=>((N:Int)-z).toNat | _=>0)
 case atStart=>exact⟨0,C,K,vc,vk,rfl,Nat.zero_le _,H0,HSt,HC0⟩
 case round=>
  obtain⟨j,D,L,vd,vl,rfl,hj,HW,HT,HC⟩:=hrel
  by_cases hlt:j<N
  ·have hlt':(j:Int)<(N:Int):=by omega
   have hjl:j<p.gs.length:=by rw[<-hN.out];exact hlt
   have hD:p.gs.drop j=p.gs[j]::p.gs.drop (j+1):=List.drop_eq_getElem_cons hjl
   obtain⟨b,off,cap',hv,-,-,hbl,hx⟩:=HG.out.open (by omega)
   simp only[Value.slice.injEq] at hv
   obtain⟨rfl,-,rfl⟩:=hv
   obtain⟨u1,u2,f1,f2,s1,s2⟩:=hx j hjl
   obtain⟨ax,cx,rfl,-,-⟩:=s1.parts.shape
   obtain⟨ay,cy,rfl,-,-⟩:=s2.parts.shape
   have HBw:Hid (Below w0.heap.size w0 wr):=a0a (HK0.out.trans (HW.out.turn.below (fun k hk=>by have:=(HF.out k hk).1;have:=HBB.out;omega) HK0.out.size))
   have kp:=fun q=>HBw.out.cell (p:=⟨b,q,none⟩) hbl
   obtain⟨y0,y1,y2,y3⟩:=f1.keep kp
   obtain⟨y4,y5,y6,y7⟩:=f2.keep kp
   have lb:b<wr.heap.size:=ZA hbl HBw.out.size
   have HIx:=a0a (And.intro (HZ.out.1 _ (List.getElem_mem hjl)) (And.intro (s1.low HBB.out HBw.out) (s2.low HBB.out HBw.out)))
   have HPw:=a0a (HW.out.po (fun i hi=>(HF.out i hi).1) HP.out)
   have HDr:=a0a hD
   clear hx f1 f2 s1 s2 kp hbl hD
   generalize p.gs[j]=g at *
   obtain⟨A,K1,hA⟩:∃ A K1,Hid (a0n g.1 L=(A,K1)):=⟨_,_,a0a rfl⟩
   obtain⟨B,K2,hB⟩:∃ B K2,Hid (a0n g.2 K1=(B,K2)):=⟨_,_,a0a rfl⟩
   have HLn:Hid (A.length<=6*a0b g.1/\K1.length<=L.length+2*a0b g.1/\B.length<=6*a0b g.2/\K2.length<=K1.length+2*a0b g.2/\gN (p.gs.drop j)=a0b g.1+a0b g.2+gN (p.gs.drop (j+1))/\1<=a0b g.1):=a0a (by
    have h1:=a1E g.1 L
    have h2:=a1E g.2 K1
    rw[hA.out] at h1
    rw[hB.out] at h2
    exact⟨h1.1,h1.2,h2.1,h2.2,by rw[HDr.out,a4D],a0m _⟩)
   have HT2:Hid (cat ((cat (cat D A++[(24,0)]) B).set (cat D A).length (24,(0:Int)+((cat (cat D A++[(24,0)]) B).length:Int))) (a1g (p.gs.drop (j+1)) p.fin K2).1=T/\(a1g (p.gs.drop (j+1)) p.fin K2).2=KT):=a0a (by
    have h1:=a5s g (p.gs.drop (j+1)) p.fin D L K1 K2 A B hA.out hB.out
    have h2:=HT.out
    rw[HDr.out] at h2
    exact⟨h1.1.symm.trans h2.1,h1.2.symm.trans h2.2⟩)
   obtain⟨Z0,ZB⟩:=a0D wr 101 [.int .i64 g.1.op,.int .i64 g.1.n,.int .i64 g.1.m,.slice ax g.1.parts.length cx,.int .i64 g.2.op,.int .i64 g.2.n,.int .i64 g.2.m,.slice ay g.2.parts.length cy]
   have HZ0:=a0a Z0
   have HZB:=a0a ZB
   have HA:=a0a (Wk.start (HW.out.next ZB).bd)
   have HFr:Hid (∀ i,i∈foot bb vd vl->bb<=i/\i<wr.heap.size):=a0a HW.out.bd.ge
   replace HPw:=a0a (HPw.out.next ZB)
   have HSx:=a0a (And.intro (HIx.out.2.1.next ZB) (HIx.out.2.2.next ZB))
   clear Z0 ZB HT
   go_wp2_with fail
   generalize hX:(wr.alloc _)=X at *
   clear hX
   refine ZF (a4N g.1 _ bb D L vd vl X HSx.out.1 HA.out.bd HPw.out HIx.out.1.1 (by have:=HC.out;have:=HLn.out;omega) (by have:=HC.out;have:=HLn.out;omega)) ?_
   rintro e w2 ⟨rfl,g2⟩
   rw[hA.out] at g2
   obtain⟨vd2,vl2,k2,-⟩:=HA.out.went g2
   have H2:=a0a k2
   clear g2 k2 y0 y1 y2 y3 y4 y5 y6 y7 lb
   go_wp2_with fail
   refine ZF (a2Q bb (cat D A) K1 vd2 vl2 24 0 w2 H2.out.bd (by rw[a0h];have:=HC.out;have:=HLn.out;omega)) ?_
   intro e w3 g3
   obtain⟨rfl,vd3,vl3,k3,-,o3⟩:=H2.out.jumped g3
   have H3:=a0a k3
   have O3:=a0a o3
   have b3:=HZ0.out.turn k3.turn (fun hm=>by have:=(HFr.out _ hm).2;omega)
   have d4:=b3.cell 4 _ rfl
   have d5:=b3.cell 5 _ rfl
   have d6:=b3.cell 6 _ rfl
   have d7:=b3.cell 7 _ rfl
   have dl:=b3.lt
   clear g3 k3 o3 b3
   go_wp2_with fail
   refine ZF (a4N g.2 _ bb _ K1 vd3 vl3 w3 (H3.out.core (fun i hi=>(HFr.out i hi).1) HSx.out.2) H3.out.bd (H3.out.po (fun i hi=>(HFr.out i hi).1) HPw.out) HIx.out.1.2 (by rw[List.length_append,a0h,List.length_singleton];have:=HC.out;have:=HLn.out;omega) (by have:=HC.out;have:=HLn.out;omega)) ?_
   rintro e w4 ⟨rfl,g4⟩
   rw[hB.out] at g4
   obtain⟨vd4,vl4,k4,s4⟩:=H3.out.went g4
   have H4:=a0a k4
   have O4:=a0a (s4 _ _ _ O3.out)
   clear g4 k4 s4 O3 d4 d5 d6 d7 dl
   go_wp2_with fail
   refine ZF (a2T w2.heap.size bb _ K2 vd4 vl4 0 (cat D A).length (24,0) w4 H4.out.bd O4.out.jm (a2Y (a2a _ _)) (a1T (by simp only[a0h,List.length_append,List.length_singleton];have:=HC.out;have:=HLn.out;omega)) O4.out.far) ?_
   rintro e w5 ⟨rfl,g5⟩
   obtain⟨vd5,vl5,k5,-⟩:=H4.out.went g5
   obtain⟨vd6,vl6,k6,-⟩:=HW.out.went (a0K.alloc HZB.out k5.done HZB.out.size)
   have H6:=a0a k6
   have HC6:Hid (((cat (cat D A++[(24,0)]) B).set (cat D A).length (24,(0:Int)+((cat (cat D A++[(24,0)]) B).length:Int))).length+8*(gN (p.gs.drop (j+1))+a0b p.fin)<=900000/\K2.length+2*(gN (p.gs.drop (j+1))+a0b p.fin)<=900000):=a0a (by
    have:=HC.out
    have:=HLn.out
    simp only[List.length_set,a0h,List.length_append,List.length_singleton]
    omega)
   clear g5 k5 k6 O4
   go_wp2_with fail
   go_roundw
   case rel=>exact⟨j+1,_,_,vd6,vl6,by go_num,by omega,H6,HT2,HC6⟩
   case measure=>simp;omega
  ·have hlt':¬(j:Int)<(N:Int):=by omega
   obtain rfl:j=N:=by omega
   have HD:Hid (p.gs.drop j=[]):=a0a (List.drop_eq_nil_of_le (by have:=hN.out;omega))
   have HBw:Hid (Below w0.heap.size w0 wr):=a0a (HK0.out.trans (HW.out.turn.below (fun k hk=>by have:=(HF.out k hk).1;have:=HBB.out;omega) HK0.out.size))
   have HSx:=a0a (HFi.out.low HBB.out HBw.out)
   have HPw:=a0a (HW.out.po (fun i hi=>(HF.out i hi).1) HP.out)
   have Y:=HY.out.turn HW.out.turn (HNF.out _ (ZC _))
   have x0:=Y.cell 10 _ rfl
   have x1:=Y.cell 11 _ rfl
   have x2:=Y.cell 12 _ rfl
   have x3:=Y.cell 13 _ rfl
   have xl:=Y.lt
   clear Y
   go_wp2_with fail
   refine ZF (a4N p.fin _ bb D L vd vl wr HSx.out HW.out.bd HPw.out HZ.out.2 (by have:=HC.out;omega) (by have:=HC.out;omega)) ?_
   rintro e w2 ⟨rfl,g2⟩
   obtain⟨vd2,vl2,k2,-⟩:=HW.out.went g2
   have H2:=a0a k2
   clear g2 k2 x0 x1 x2 x3 xl
   go_wp2_with fail
   refine bodyPost_end (v:=.tuple #[]) (by simp[results,Tryz.results34,go_sem, *]) rfl ?_
   have g:=a0K.alloc HB.out H2.out.done HB.out.size
   have h:=HT.out
   rw[HD.out] at h
   have h1:cat D (a0n p.fin L).1=T:=h.1
   have h2:(a0n p.fin L).2=KT:=h.2
   rw[h1,h2] at g
   exact⟨rfl,g⟩
end Go.Proofs.YtbddbnjhmdbkbaaGreatDoor
