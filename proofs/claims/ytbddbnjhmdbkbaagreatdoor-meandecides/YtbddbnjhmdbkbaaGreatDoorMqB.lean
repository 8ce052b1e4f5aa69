import Derived.Test.YtbddbnjhmdbkbaaGreatDoorMdC
import Derived.Test.YtbddbnjhmdbkbaaGreatDoorMjD
import Derived.Test.YtbddbnjhmdbkbaaGreatDoorMhT
import Derived.Test.YtbddbnjhmdbkbaaGreatDoorMhO
namespace Go.Proofs.YtbddbnjhmdbkbaaGreatDoor
open Go.RowKit
theorem b7X {T:List EvP}{t:Int}(h:T.Pairwise (fun x y=>x.time<=y.time))(hn:0<T.length):(∃ x,x∈T/\t<x.time)↔t<(T.getD (T.length-1) ev0).time:=by
 have hl:T.length-1<T.length:=by omega
 have e:T.getD (T.length-1) ev0=T[T.length-1]:=by simp[List.getD,hl]
 rw[e]
 constructor
 ·rintro⟨x,hx,hlt⟩
  obtain⟨i,hi,rfl⟩:=List.mem_iff_getElem.1 hx
  by_cases hii:i<T.length-1
  ·have:=List.pairwise_iff_getElem.1 h i (T.length-1) hi hl hii
   omega
  ·have:i=T.length-1:=by omega
   subst this
   exact hlt
 ·intro h
  exact⟨_,List.getElem_mem hl,h⟩
theorem b1E (w:World):a3j w ⟨0,[],[]⟩ (.slice none 0 0) (.slice none 0 0):=⟨⟨a0y,fun i=>by simpa using And.intro a0y a0y,by simp,by simp⟩,⟨none,0,rfl,.inl rfl⟩,⟨none,0,rfl,.inl rfl⟩⟩
set_option maxHeartbeats 4000000 in
set_option maxRecDepth 20000 in
theorem c2C (q:Co->Co->Bool)(p:PlP)(v:PlV)(l:List EvP)(u:Value)(t rep:Int)(w:World)(hs:a4g w p v)(hfo:∀ W,Below w.heap.size w W->Calls Tryz.prog 29 #[plV p v] W fun e w'=>e=.returned (.bool (a0q q p))/\Below W.heap.size W w')(hE:a4M w u l)(hok:∀ e,e∈l->a9W e)(hL:l.length*32<=140737488355328)(ht:a1x t)(hrep:C64 rep)(nm:Cr->Bool)(hnm:∀ c,nm c=true↔a5n c t):
 Calls Tryz.prog 12 #[plV p v,u,.int .i64 t,.int .i64 rep] w fun r w'=>∃ u1 u2,r=.returned (.tuple #[.agg #[.int .i64 (a0T q p l t rep nm).1.rep,u1,u2],.int .i64 (a0T q p l t rep nm).2])/\a3j w' (a0T q p l t rep nm).1 u1 u2/\Below w.heap.size w w':=by
 have HFo:=a0a hfo
 have HTa:=a0a (fun W (hW:Below w.heap.size w W)=>b7j p.mets.length l u W (a0U.next hE hW) hok hL)
 have HPs:=a0a hs
 obtain⟨a1,c1,a2,c2,a3,c3,a4,c4,a5,c5,rfl,g1,g2,g3,g4⟩:=hs.shapes
 obtain⟨ea,ec,rfl,he1,he2,he3⟩:=hE
 obtain⟨Y0,Y1,Y2⟩:=a0n w 32 40 (plL p ⟨.slice a1 p.mets.length c1,.slice a2 p.wins.length c2,.slice a3 p.crons.length c3,.slice a4 p.gs.length c4,.slice a5 p.fin.parts.length c5⟩) [.int .i64 0,.slice none 0 0,.slice none 0 0]
 have HY0:=a0a Y0
 have HY1:=a0a Y1
 have B0:=a0a Y2
 obtain⟨x0,x1,x2,x3,x4,x5,x6,x7,x8,x9,x10,x11,x12,x13⟩:=Box.c14 Y0
 have xl:=Y0.lt
 have HOk:=a0a hok
 have HL:=a0a hL
 have HT:=a0a ht
 have HRp:=a0a hrep
 have HNm:=a0a hnm
 obtain⟨MF,hMF⟩:∃ MF,Hid (MF=a0T q p l t rep nm):=⟨_,a0a rfl⟩
 rw[<-hMF.out]
 clear hs Y0 Y1 Y2 g1 g2 g3 g4 hL hok ht hrep hnm hfo he1 he2 he3
 cases hf:a0q q p with
 | false=>
   obtain rfl:MF=(⟨0,[],[]⟩,1):=by rw[hMF.out];unfold a0T;rw[if_pos hf]
   rw[hf] at HFo
   clear HTa hMF
   go_enter Tryz.func12,Tryz.ntmps12
   go_wp2_with fail
   refine ZE (HFo.out _ B0.out) ?_
   rintro e w1 ⟨rfl,b⟩
   have B1:=kb B0 b
   replace HY1:=kn HY1 b
   clear x0 x1 x2 x3 x4 x5 x6 x7 x8 x9 x10 x11 x12 x13 xl b
   obtain⟨r0,r1,r2⟩:=Box.c3 HY1.out
   have f0:=HY1.out.free 0 (by simp)
   have f1:=HY1.out.free 1 (by simp)
   have f2:=HY1.out.free 2 (by simp)
   have rl:=HY1.out.lt
   go_wp2_with fail
   refine bodyPost_ret (v:=.tuple #[.agg #[.int .i64 0,.slice none 0 0,.slice none 0 0],.int .i64 1]) (by simp[results,Tryz.results12,go_sem, *]) rfl ?_
   exact⟨_,_,rfl,b1E _,((B1.out.setCell (p:=⟨w.heap.size+1,0,none⟩) (by simp) _).setCell (p:=⟨w.heap.size+1,1,none⟩) (by simp) _).setCell (p:=⟨w.heap.size+1,2,none⟩) (by simp) _⟩
 | true=>
   rw[hf] at HFo
   go_enter Tryz.func12,Tryz.ntmps12
   go_wp2_with fail
   refine ZE (HFo.out _ B0.out) ?_
   rintro e w1 ⟨rfl,b⟩
   have B1:=kb B0 b
   replace HY1:=kn HY1 b
   replace HY0:=kn HY0 b
   clear x0 x1 x2 x3 x4 x5 x6 x7 x8 x9 x10 x11 x12 x13 xl b
   have x0:=HY0.out.cell 0 _ rfl
   have xl:=HY0.out.lt
   go_wp2_with fail
   refine ZE (HTa.out _ B1.out) ?_
   rintro e w2 ⟨tv,rfl,hO,b⟩
   have B2:=kb B1 b
   replace HY1:=kn HY1 b
   replace HY0:=kn HY0 b
   clear x0 xl b
   have HO:=a0a hO
   obtain⟨ta,tc,rfl⟩:=a1q hO
   clear hO
   obtain⟨T,hT⟩:∃ T,Hid (T=a1w p.mets.length l):=⟨_,a0a rfl⟩
   rw[<-hT.out] at HO ⊢
   have HEt:=a0a (b3b HO.out)
   have HSo:Hid (T.Pairwise (fun x y=>x.time<=y.time)):=by rw[hT.out];exact a0a (a3b _ l a9o).1
   have HLt:Hid (T.length*32<=140737488355328):=a0a (by have h1:T.length<=l.length:=by {rw[hT.out];exact a5s _ l a9o};have:=HL.out;omega)
   have HSe:Hid (∀ W,Below w2.heap.size w2 W->(∀ x,x∈T->x.time<=t)->Calls Tryz.prog 31 #[plV p ⟨.slice a1 p.mets.length c1,.slice a2 p.wins.length c2,.slice a3 p.crons.length c3,.slice a4 p.gs.length c4,.slice a5 p.fin.parts.length c5⟩,.slice ta T.length tc,.int .i64 t,.int .i64 rep] W fun e w'=>∃ u1 u2,e=.returned (.agg #[.int .i64 rep,u1,u2])/\w'.ownsRow W.heap.size 84 2 u1 p.wins.length (a1D (fun i=>rsL (a1L (a1k T) t (p.wins.getD i wi0))) p.wins.length)/\w'.ownsRow W.heap.size 4 1 u2 p.crons.length (a1D (fun i=>[.bool (nm (p.crons.getD i cr0))]) p.crons.length)/\Below W.heap.size W w'):=a0a (fun W hW hl=>c0t p _ T _ t rep W (HPs.out.next (a0b B2.out hW B2.out.size)) (a0U.next HEt.out hW) HLt.out HT.out HRp.out p.mets.length (a4k hf HPs.out.wok) (fun j=>by rw[hT.out];exact a5I HOk.out (fun x hx=>hl x (by rw[hT.out];exact hx)) j) (a0P hf).2.1 (a0P hf).2.2 nm HNm.out)
   have HM1:Hid ((∃ x,x∈T/\t<x.time)->MF=(⟨0,[],[]⟩,32)):=a0a (fun h=>by rw[hMF.out];unfold a0T;rw[if_neg (by rw[hf];decide),<-hT.out,if_pos h])
   have HM2:Hid ((¬ ∃ x,x∈T/\t<x.time)->MF=(⟨rep,p.wins.map (a1L (a1k T) t),p.crons.map nm⟩,0)):=a0a (fun h=>by rw[hMF.out];unfold a0T;rw[if_neg (by rw[hf];decide),<-hT.out,if_neg h])
   have hf0:=a0a hf
   have HUy:Hid (∀ j y,y∈a1k (a1w p.mets.length l) j->a1x y.2):=a0a (fun j y hy=>by
    unfold a1k at hy
    obtain⟨e,he,rfl⟩:=List.mem_map.1 hy
    have h2:=(HOk.out e (a5r _ l a9o e (List.mem_filter.1 he).1).1).val
    unfold C64 at h2
    exact⟨by show _<=e.val;omega,by show e.val<_;omega⟩)
   clear HO hMF hf HTa HFo
   obtain⟨x0,x1,x2,x3,x4,x5,x6,x7,x8,x9,x10,x11,x12,x13⟩:=Box.c14 HY0.out
   have xl:=HY0.out.lt
   obtain⟨r0,r1,r2⟩:=Box.c3 HY1.out
   have f0:=HY1.out.free 0 (by simp)
   have f1:=HY1.out.free 1 (by simp)
   have f2:=HY1.out.free 2 (by simp)
   have rl:=HY1.out.lt
   obtain⟨LT,hLT⟩:∃ LT,Hid (LT=T.length):=⟨_,a0a rfl⟩
   rw[<-hLT.out] at HSe ⊢
   by_cases hn:LT=0
   case neg=>
    obtain⟨m,rfl⟩:∃ m,LT=m+1:=⟨LT-1,by omega⟩
    have hn':(0:Int)<((m+1:Nat):Int):=by omega
    have hm1:((m+1:Nat):Int)-1=(m:Int):=by omega
    have hmb:(m:Int)<4398046511104:=by have:=HLt.out;have:=hLT.out;omega
    have hwm:wrap64 (m:Int)=(m:Int):=by unfold wrap64;omega
    have hml:(m:Int)<((m+1:Nat):Int):=by omega
    obtain⟨b,off,cap',hv,-,-,hbl,hx⟩:=a0U.open HEt.out (by rw[<-hLT.out];omega)
    simp only[Value.slice.injEq] at hv
    obtain⟨rfl,-,rfl⟩:=hv
    have y3:=hx m (by rw[<-hLT.out];omega) 3 _ rfl
    have hla:=b7X (t:=t) HSo.out (by rw[<-hLT.out];omega)
    rw[<-hLT.out,Nat.add_sub_cancel] at hla
    generalize (T.getD m ev0).time=tm at *
    clear hx
    by_cases hlt:t<tm
    ·obtain rfl:=HM1.out (hla.2 hlt)
     clear hla HM1 HM2 HSe
     go_wp2_with fail
     refine bodyPost_ret (v:=.tuple #[.agg #[.int .i64 0,.slice none 0 0,.slice none 0 0],.int .i64 32]) (by simp[results,Tryz.results12,go_sem, *]) rfl ?_
     exact⟨_,_,rfl,b1E _,((B2.out.setCell (p:=⟨w.heap.size+1,0,none⟩) (by simp) _).setCell (p:=⟨w.heap.size+1,1,none⟩) (by simp) _).setCell (p:=⟨w.heap.size+1,2,none⟩) (by simp) _⟩
    ·have hal:∀ x,x∈T->x.time<=t:=fun x hx=>by
      apply Classical.byContradiction
      intro h
      exact hlt (hla.1 ⟨x,hx,by omega⟩)
     obtain rfl:=HM2.out (fun h=>hlt (hla.1 h))
     have HSf:=a0a (fun W hW=>HSe.out W hW hal)
     clear hla HM1 HM2 HSe hal
     have hd:decide (t<tm)=false:=decide_eq_false hlt
     clear hlt HY0 HEt HSo HLt hLT
     go_wp2_with fail
     refine ZE (HSf.out _ (ZD _ _)) ?_
     rintro e w3 ⟨u1,u2,rfl,ho1,ho2,b⟩
     obtain⟨e1,d1,rfl⟩:=a1q ho1
     obtain⟨e2,d2,rfl⟩:=a1q ho2
     have hO1:=a0a ho1
     have hO2:=a0a ho2
     have B3:=kb B2 b
     replace HY1:=kn HY1 b
     have hsz:Hid (w.heap.size+1<w2.heap.size):=a0a rl
     clear ho1 ho2 b x0 x1 x2 x3 x4 x5 x6 x7 x8 x9 x10 x11 x12 x13 xl r0 r1 r2 f0 f1 f2 rl
     obtain⟨r0,r1,r2⟩:=Box.c3 HY1.out
     have f0:=HY1.out.free 0 (by simp)
     have f1:=HY1.out.free 1 (by simp)
     have f2:=HY1.out.free 2 (by simp)
     have rl:=HY1.out.lt
     go_wp2_with fail
     have TT:=a1e (a1e (a0x w3 (w.heap.size+1) 0 (.int .i64 rep)) (a0x _ (w.heap.size+1) 1 (.slice e1 p.wins.length d1))) (a0x _ (w.heap.size+1) 2 (.slice e2 p.crons.length d2))
     have q1:=a3e hO1.out (fun b hb hl=>TT.block b hl (by have:=hsz.out;simp;omega))
     have q2:=a3e hO2.out (fun b hb hl=>TT.block b hl (by have:=hsz.out;simp;omega))
     refine bodyPost_ret (v:=.tuple #[.agg #[.int .i64 rep,.slice e1 p.wins.length d1,.slice e2 p.crons.length d2],.int .i64 0]) (by simp[results,Tryz.results12,go_sem, *]) rfl ?_
     exact⟨_,_,rfl,a8n HRp.out (a0P hf0.out).2.1 (a0P hf0.out).2.2 (fun j y hy=>by rw[hT.out] at hy;exact(HUy.out j y hy)) q1 q2,((B3.out.setCell (p:=⟨w.heap.size+1,0,none⟩) (by simp) _).setCell (p:=⟨w.heap.size+1,1,none⟩) (by simp) _).setCell (p:=⟨w.heap.size+1,2,none⟩) (by simp) _⟩
   subst hn
   have hal:∀ x,x∈T->x.time<=t:=fun x hx=>by
    rw[List.eq_nil_of_length_eq_zero hLT.out.symm] at hx
    cases hx
   obtain rfl:=HM2.out (fun h=>by obtain⟨x,hx,hl⟩:=h;have:=hal x hx;omega)
   have HSf:=a0a (fun W hW=>HSe.out W hW hal)
   clear HM1 HM2 HSe hal
   go_wp2_with fail
   refine ZE (HSf.out _ (ZD _ _)) ?_
   rintro e w3 ⟨u1,u2,rfl,ho1,ho2,b⟩
   obtain⟨e1,d1,rfl⟩:=a1q ho1
   obtain⟨e2,d2,rfl⟩:=a1q ho2
   have hO1:=a0a ho1
   have hO2:=a0a ho2
   have B3:=kb B2 b
   replace HY1:=kn HY1 b
   have hsz:Hid (w.heap.size+1<w2.heap.size):=a0a rl
   clear ho1 ho2 b x0 x1 x2 x3 x4 x5 x6 x7 x8 x9 x10 x11 x12 x13 xl r0 r1 r2 f0 f1 f2 rl
   obtain⟨r0,r1,r2⟩:=Box.c3 HY1.out
   have f0:=HY1.out.free 0 (by simp)
   have f1:=HY1.out.free 1 (by simp)
   have f2:=HY1.out.free 2 (by simp)
   have rl:=HY1.out.lt
   go_wp2_with fail
   have TT:=a1e (a1e (a0x w3 (w.heap.size+1) 0 (.int .i64 rep)) (a0x _ (w.heap.size+1) 1 (.slice e1 p.wins.length d1))) (a0x _ (w.heap.size+1) 2 (.slice e2 p.crons.length d2))
   have q1:=a3e hO1.out (fun b hb hl=>TT.block b hl (by have:=hsz.out;simp;omega))
   have q2:=a3e hO2.out (fun b hb hl=>TT.block b hl (by have:=hsz.out;simp;omega))
   refine bodyPost_ret (v:=.tuple #[.agg #[.int .i64 rep,.slice e1 p.wins.length d1,.slice e2 p.crons.length d2],.int .i64 0]) (by simp[results,Tryz.results12,go_sem, *]) rfl ?_
   exact⟨_,_,rfl,a8n HRp.out (a0P hf0.out).2.1 (a0P hf0.out).2.2 (fun j y hy=>by rw[hT.out] at hy;exact(HUy.out j y hy)) q1 q2,((B3.out.setCell (p:=⟨w.heap.size+1,0,none⟩) (by simp) _).setCell (p:=⟨w.heap.size+1,1,none⟩) (by simp) _).setCell (p:=⟨w.heap.size+1,2,none⟩) (by simp) _⟩
theorem c1D (q:Co->Co->Bool)(p:PlP)(l:List EvP)(t rep:Int)(nm:Cr->Bool)(h:(a0T q p l t rep nm).2=0):c3v (a0T q p l t rep nm).1 p/\b3w q p l t rep nm=.tuple #[a2O (gsR (a0T q p l t rep nm).1 p.gs p.fin),.int .i64 0]:=by
 have hf:a0q q p=true/\(a0T q p l t rep nm).1.wins.length=p.wins.length/\(a0T q p l t rep nm).1.crons.length=p.crons.length:=by
  unfold a0T at h ⊢
  by_cases h1:a0q q p=false
  ·rw[if_pos h1] at h;cases h
  ·rw[if_neg h1] at h ⊢
   by_cases h2:∃ x,x∈a1w p.mets.length l/\t<x.time
   ·rw[if_pos h2] at h;cases h
   ·rw[if_neg h2]
    exact⟨by simpa using h1,by simp,by simp⟩
 refine⟨(b4v hf.1 hf.2.1 hf.2.2).1,?_⟩
 unfold b3w
 rw[if_pos h]
 have h2:(a0q q p&&a8A (a0T q p l t rep nm).1 p)=true:=by rw[hf.1];simp[a8A,hf.2.1,hf.2.2]
 rw[h2]
 rfl
theorem b4i (r:Rs):∃ b x y,a2O r=.agg #[.bool b,.int .i64 x,.int .i64 y]:=by
 unfold a2O
 split
 ·exact⟨_,_,_,rfl⟩
 ·exact⟨_,_,_,rfl⟩
set_option maxHeartbeats 2000000 in
set_option maxRecDepth 20000 in
theorem b7B (q:Co->Co->Bool)(p:PlP)(v:PlV)(l:List EvP)(u:Value)(t rep:Int)(w:World)(hs:a4g w p v)(hfo:∀ W,Below w.heap.size w W->Calls Tryz.prog 29 #[plV p v] W fun e w'=>e=.returned (.bool (a0q q p))/\Below W.heap.size W w')(hde:∀ W E v1 v2,Below w.heap.size w W->c3v E p->a3j W E v1 v2->Calls Tryz.prog 33 #[plV p v,a7c E v1 v2] W fun e w'=>e=.returned (a2O (gsR E p.gs p.fin))/\Below W.heap.size W w')(hE:a4M w u l)(hok:∀ e,e∈l->a9W e)(hL:l.length*32<=140737488355328)(ht:a1x t)(hrep:C64 rep)(nm:Cr->Bool)(hnm:∀ c,nm c=true↔a5n c t):
 Calls Tryz.prog 15 #[plV p v,u,.int .i64 t,.int .i64 rep] w fun r w'=>r=.returned (b3w q p l t rep nm)/\Below w.heap.size w w':=by
 have HEn:=a0a (fun W (hW:Below w.heap.size w W)=>c2C q p v l u t rep W (hs.next hW) (fun W' hW'=>hfo W' (a0b hW hW' hW.size)) (a0U.next hE hW) hok hL ht hrep nm hnm)
 have HDe:=a0a hde
 have HM0:=a0a (c1D q p l t rep nm)
 have HM:Hid ((a0T q p l t rep nm).2≠0->b3w q p l t rep nm=.tuple #[.agg #[.bool false,.int .i64 0,.int .i64 0],.int .i64 (a0T q p l t rep nm).2]):=a0a (fun h=>if_neg h)
 generalize b3w q p l t rep nm=DM at *
 generalize a0T q p l t rep nm=MF at *
 obtain⟨E,err⟩:=MF
 dsimp only at *
 obtain⟨a1,c1,a2,c2,a3,c3,a4,c4,a5,c5,rfl,-,-,-,-⟩:=hs.shapes
 obtain⟨ea,ec,rfl,-,-,-⟩:=hE
 obtain⟨Y0,Y1,Y2⟩:=a0n w 32 48 (plL p ⟨.slice a1 p.mets.length c1,.slice a2 p.wins.length c2,.slice a3 p.crons.length c3,.slice a4 p.gs.length c4,.slice a5 p.fin.parts.length c5⟩) [.bool false,.int .i64 0,.int .i64 0]
 have HY0:=a0a Y0
 have HY1:=a0a Y1
 have B0:=a0a Y2
 obtain⟨x0,x1,x2,x3,x4,x5,x6,x7,x8,x9,x10,x11,x12,x13⟩:=Box.c14 Y0
 have xl:=Y0.lt
 clear hs hok hnm hfo hde Y0 Y1 Y2
 go_enter Tryz.func15,Tryz.ntmps15
 go_wp2_with fail
 refine ZE (HEn.out _ B0.out) ?_
 rintro e w1 ⟨u1,u2,rfl,he,b⟩
 obtain⟨e1,d1,e2,d2,rfl,rfl⟩:=he.shape
 have HE:=a0a he
 have B1:=kb B0 b
 replace HY0:=kn HY0 b
 replace HY1:=kn HY1 b
 clear x0 x1 x2 x3 x4 x5 x6 x7 x8 x9 x10 x11 x12 x13 xl b he HEn B0
 obtain⟨k0,k1,k2⟩:=Box.c3 HY1.out
 have f0:=HY1.out.free 0 (by simp)
 have f1:=HY1.out.free 1 (by simp)
 have f2:=HY1.out.free 2 (by simp)
 have kl:=HY1.out.lt
 by_cases h0:err=0
 ·subst h0
  have HM2:=a0a (HM0.out rfl).2
  have HPl:=a0a (HM0.out rfl).1
  obtain⟨b,x,y,hdv⟩:=b4i (gsR E p.gs p.fin)
  have HDv:=a0a hdv
  clear hdv
  obtain⟨x0,x1,x2,x3,x4,x5,x6,x7,x8,x9,x10,x11,x12,x13⟩:=Box.c14 HY0.out
  have xl:=HY0.out.lt
  have ba:=(ZD w1.heap.size w1).alloc (ZB _) (.cells #[.int .i64 E.rep,.slice e1 E.wins.length d1,.slice e2 E.crons.length d2] 40)
  have BA:=a0a ba
  have B2:=kb B1 ba
  have HE2:=a0a (HE.out.next ba)
  clear ba
  go_wp2_with fail
  refine ZE (HDe.out _ E _ _ B2.out HPl.out HE2.out) ?_
  rintro e w2 ⟨rfl,b2⟩
  rw[HDv.out]
  have B3:=kb B2 b2
  replace HY1:=a0a (HY1.out.next (a0b BA.out b2 BA.out.size))
  clear b2 k0 k1 k2 f0 f1 f2 kl x0 x1 x2 x3 x4 x5 x6 x7 x8 x9 x10 x11 x12 x13 xl
  obtain⟨k0,k1,k2⟩:=Box.c3 HY1.out
  have f0:=HY1.out.free 0 (by simp)
  have f1:=HY1.out.free 1 (by simp)
  have f2:=HY1.out.free 2 (by simp)
  have kl:=HY1.out.lt
  go_wp2_with fail
  refine bodyPost_ret (v:=.tuple #[.agg #[.bool b,.int .i64 x,.int .i64 y],.int .i64 0]) (by simp[results,Tryz.results15,go_sem, *]) rfl ?_
  exact⟨by rw[HM2.out,HDv.out],((B3.out.setCell (p:=⟨w.heap.size+1,0,none⟩) (by simp) _).setCell (p:=⟨w.heap.size+1,1,none⟩) (by simp) _).setCell (p:=⟨w.heap.size+1,2,none⟩) (by simp) _⟩
 ·have HM2:Hid (DM=.tuple #[.agg #[.bool false,.int .i64 0,.int .i64 0],.int .i64 err]):=a0a (HM.out h0)
  have h0':(err != 0)=true:=by simpa using h0
  clear HDe HM HM0
  go_wp2_with fail
  refine bodyPost_ret (v:=.tuple #[.agg #[.bool false,.int .i64 0,.int .i64 0],.int .i64 err]) (by simp[results,Tryz.results15,go_sem, *]) rfl ?_
  exact⟨by rw[HM2.out],(((B1.out.setCell (p:=⟨w.heap.size+1,0,none⟩) (by simp) _).setCell (p:=⟨w.heap.size+1,1,none⟩) (by simp) _).setCell (p:=⟨w.heap.size+1,2,none⟩) (by simp) _).alloc (by have:=B1.out.size;simp;omega) _⟩
set_option maxHeartbeats 2000000 in
set_option maxRecDepth 20000 in
theorem a7Q (p:PlP)(v:PlV)(l:List EvP)(u:Value)(t rep:Int)(w:World)(hs:a4g w p v)(hgs:p.gs.length*96<=140737488355328)(hE:a4M w u l)(hok:∀ e,e∈l->a9W e)(hL:l.length*32<=140737488355328)(ht:C64 t)(hrep:C64 rep)(hF:a2Z w)(hLn:a5o w)(hg:GlE w)(hfo:∀ (q:Co->Co->Bool),(∀ a b,q a b=true↔a=b)->∀ W,Below w.heap.size w W->Calls Tryz.prog 29 #[plV p v] W fun e w'=>e=.returned (.bool (a0q q p))/\Below W.heap.size W w')(hde:∀ W E v1 v2,Below w.heap.size w W->c3v E p->a3j W E v1 v2->Calls Tryz.prog 33 #[plV p v,a7c E v1 v2] W fun e w'=>e=.returned (a2O (gsR E p.gs p.fin))/\Below W.heap.size W w'):
 Calls Tryz.prog 4 #[plV p v,u,.agg #[.int .i64 t,.int .i64 rep]] w fun r w'=>r=.returned (.bool true)/\Below w.heap.size w w':=by
 classical
 obtain⟨q,hq⟩:∃ q:Co->Co->Bool,∀ a b,q a b=true↔a=b:=⟨fun a b=>decide (a=b),fun a b=>by simp⟩
 have ht2:a1x t:=⟨ht.1,by have:=ht.2;omega⟩
 obtain⟨nm,hnm⟩:=b7O t
 have HAw:=a0a (fun W (hW:Below w.heap.size w W)=>b6k W (hF.later hW) (GlE.next hg hW))
 have HEn:=a0a (fun W (hW:Below w.heap.size w W)=>a9r q hq p v l u t rep W (hs.next hW) (hF.later hW) (GlE.next hg hW) (a0U.next hE hW) hok hL ht2 hrep nm (c0P t ht2 nm hnm p hs.cok W (hLn.later hW)))
 have HRe:=a0a (fun W (hW:Below w.heap.size w W)=>b7B q p v l u t rep W (hs.next hW) (fun W' hW'=>hfo q hq W' (a0b hW hW' hW.size)) (fun W' E v1 v2 hW'=>hde W' E v1 v2 (a0b hW hW' hW.size)) (a0U.next hE hW) hok hL ht2 hrep nm hnm)
 obtain⟨ka,kq,kc,hdec⟩:=b8w q p l t rep nm
 rw[hdec] at HEn HRe
 generalize (a0T q p l t rep nm).2=er at *
 clear hdec
 have HFw:=a0a (fun W (hW:Below w.heap.size w W)=>c1u p v W (hs.next hW) hgs)
 obtain⟨a1,c1,a2,c2,a3,c3,a4,c4,a5,c5,rfl,g1,g2,g3,g4⟩:=hs.shapes
 obtain⟨ea,ec,rfl,he1,he2,he3⟩:=hE
 have hlm:l.length<=9223372036854775807:=by omega
 obtain⟨Y0,Y1,B0⟩:=a0n w 32 34 (plL p ⟨.slice a1 p.mets.length c1,.slice a2 p.wins.length c2,.slice a3 p.crons.length c3,.slice a4 p.gs.length c4,.slice a5 p.fin.parts.length c5⟩) [.int .i64 t,.int .i64 rep]
 have HY0:=a0a Y0
 have HY1:=a0a Y1
 have HB0:=a0a B0
 clear hs hF hLn hg hok hL hgs hnm Y0 Y1 B0 hq hfo hde g1 g2 g3 g4 he3
 go_enter Tryz.func4,Tryz.ntmps4
 go_wp2_with fail
 refine ZE (HAw.out _ HB0.out) ?_
 rintro e w1 ⟨rfl,b1⟩
 have B1:=kb HB0 b1
 replace HY0:=kn HY0 b1
 replace HY1:=kn HY1 b1
 clear b1 HB0
 obtain⟨x0,x1,x2,x3,x4,x5,x6,x7,x8,x9,x10,x11,x12,x13⟩:=Box.c14 HY0.out
 have xl:=HY0.out.lt
 go_wp2_with fail
 refine ZE (HFw.out _ B1.out _ _ _ hlm) ?_
 rintro e w2 ⟨rfl,b2⟩
 have B2:=kb B1 b2
 replace HY0:=kn HY0 b2
 replace HY1:=kn HY1 b2
 clear b2 B1 x0 x1 x2 x3 x4 x5 x6 x7 x8 x9 x10 x11 x12 x13 xl HFw
 cases hfw:(c3E p&&decide (l.length<=20000)) with
 | false=>
   go_wp2_with fail
   refine ZE (HAw.out _ B2.out) ?_
   rintro e w3 ⟨rfl,b3⟩
   have B3:=kb B2 b3
   clear b3
   go_wp2_with fail
   go_ret
   exact⟨rfl,B3.out⟩
 | true=>
   have hl20:l.length<=20000:=by
    simp only[Bool.and_eq_true,decide_eq_true_eq] at hfw
    exact hfw.2
   clear HAw hfw
   obtain⟨x0,x1,x2,x3,x4,x5,x6,x7,x8,x9,x10,x11,x12,x13⟩:=Box.c14 HY0.out
   have xl:=HY0.out.lt
   obtain⟨t0,t1⟩:=Box.c2 HY1.out
   have tl:=HY1.out.lt
   go_wp2_with fail
   refine ZE (HEn.out _ B2.out) ?_
   rintro r w3 ⟨rfl,b6⟩
   have BX:Below w3.heap.size w3 (w3.alloc (.cells #[.bool ka,.int .i64 kq,.int .i64 kc] 48)):=(ZD _ _).alloc (ZB _) _
   have B4:=a0a (a0b (a0b B2.out b6 B2.out.size) BX (ZC B2.out.size b6.size))
   have Xa:=a0a (Box.new w3 [.bool ka,.int .i64 kq,.int .i64 kc] 48)
   obtain⟨ab,hab⟩:∃ rb,Hid (rb=w3.heap.size):=⟨_,rfl⟩
   rw[<-hab.out] at Xa
   replace HY0:=a0a ((HY0.out.next b6).next BX)
   replace HY1:=a0a ((HY1.out.next b6).next BX)
   clear b6 BX x0 x1 x2 x3 x4 x5 x6 x7 x8 x9 x10 x11 x12 x13 xl t0 t1 tl
   obtain⟨x0,x1,x2,x3,x4,x5,x6,x7,x8,x9,x10,x11,x12,x13⟩:=Box.c14 HY0.out
   have xl:=HY0.out.lt
   obtain⟨t0,t1⟩:=Box.c2 HY1.out
   have tl:=HY1.out.lt
   go_wp2_with fail
   rw[<-hab.out]
   generalize hW:w3.alloc _=w4 at *
   clear hW
   refine ZE (HRe.out _ B4.out) ?_
   rintro r w5 ⟨rfl,b6⟩
   have BX:Below w5.heap.size w5 (w5.alloc (.cells #[.bool ka,.int .i64 kq,.int .i64 kc] 48)):=(ZD _ _).alloc (ZB _) _
   have B6:=a0a (a0b (a0b B4.out b6 B4.out.size) BX (ZC B4.out.size b6.size))
   have Xb:=a0a (Box.new w5 [.bool ka,.int .i64 kq,.int .i64 kc] 48)
   obtain⟨bb,hbb⟩:∃ rb,Hid (rb=w5.heap.size):=⟨_,rfl⟩
   rw[<-hbb.out] at Xb
   replace HY0:=a0a ((HY0.out.next b6).next BX)
   replace HY1:=a0a ((HY1.out.next b6).next BX)
   replace Xa:=a0a ((Xa.out.next b6).next BX)
   clear b6 BX x0 x1 x2 x3 x4 x5 x6 x7 x8 x9 x10 x11 x12 x13 xl t0 t1 tl
   obtain⟨p0,p1,p2⟩:=Box.c3 Xa.out
   have pl:=Xa.out.lt
   obtain⟨s0,s1,s2⟩:=Box.c3 Xb.out
   have sl:=Xb.out.lt
   go_wp2_with fail
   rw[<-hbb.out]
   generalize hW:w5.alloc _=w6 at *
   clear hW
   go_wp2_with fail
   go_ret
   exact⟨rfl,B6.out⟩
end Go.Proofs.YtbddbnjhmdbkbaaGreatDoor
