import Derived.Test.YtbddbnjhmdbkbaaGreatDoorMhT
import Derived.Deep.RegionHeld3
namespace Go.Proofs.YtbddbnjhmdbkbaaGreatDoor
open Go.RowKit Go.Shelf
attribute [local go_sem] Oper.semAt_some
theorem b0P (w:World):a3v w ⟨0,[],[]⟩ (.slice none 0 0) (.slice none 0 0):=
 ⟨⟨a0r,fun i=>by simpa using And.intro a0r a0r,by simp,by simp⟩,⟨none,0,rfl,.inl rfl⟩,⟨none,0,rfl,.inl rfl⟩⟩
def c4c (B:Nat)(u1 u2:Value):Prop:=(∀ r,u1.ownBlock=some r->B<=r)/\(∀ r,u2.ownBlock=some r->B<=r)
theorem a8z (B:Nat):c4c B (.slice none 0 0) (.slice none 0 0):=by
 refine⟨fun r h=>?_,fun r h=>?_⟩
 ·cases h
 ·cases h
set_option maxRecDepth 100000 in
set_option maxHeartbeats 4000000 in
theorem b9y (q:Co->Co->Bool)(hq:∀ a b,q a b=true↔a=b)(p:PlP)(v:PlV)(l:List EvP)(u:Value)(t rep:Int)(w:World)(hs:a4n w p v)(hF:a2M w)(hE:a4A w u l)(hok:∀ e,e∈l->b0j e)(hL:l.length*32<=140737488355328)(ht:a1n t)(hrep:C64 rep)(nm:Cr->Bool)(hnm:∀ c,c∈p.crons->∀ W,Below w.heap.size w W->Calls Tryz.prog 52 #[.agg (crL c).toArray,.int .i64 t] W fun e w'=>e=.returned (.bool (nm c))/\Below W.heap.size W w'):
 Calls Tryz.prog 11 #[plV p v,u,.int .i64 t,.int .i64 rep] w fun r w'=>∃ u1 u2,r=.returned (.tuple #[.agg #[.int .i64 (a1v q p l t rep nm).1.rep,u1,u2],.int .i64 (a1v q p l t rep nm).2])/\a3v w' (a1v q p l t rep nm).1 u1 u2/\Below w.heap.size w w'/\c4c w.heap.size u1 u2:=by
 have HFo:=a0a (fun W (hW:Below w.heap.size w W)=>a8S q hq p v W (hF.later hW) (hs.next hW))
 have HS:=a0a hs
 have HMl:Hid (a0s q p=true->p.mets.length<=64):=fun h=>by
  unfold a0s at h
  simp only[Bool.and_eq_true] at h
  have h1:=h.1.1.1.1.1
  unfold a2T at h1
  exact(of_decide_eq_true h1).1
 obtain⟨a1,c1,a2,c2,a3,c3,a4,c4,a5,c5,rfl,g1,g2,g3,g4⟩:=hs.shapes
 have HEv:=a0a hE
 obtain⟨ea,ec,rfl,he1,he2,he3⟩:=hE
 refine(callsIn_wide (n:=6)).1 ?_
 refine callsIn_of_wp_marks Tryz.func11 rfl trivial ?_ rfl
 simp only[Tryz.ntmps11,List.size_toArray,List.length_cons,List.length_nil,Nat.reduceAdd,Nat.reduceSub,Array.replicate_succ,Array.replicate_zero,List.push_toArray,List.append_toArray,List.nil_append,List.cons_append]
 gi_wp2_with fail
 obtain⟨X0,X1,X2,X3,B0,hz0⟩:=a6v w 32 2 40 41 (plL p ⟨.slice a1 p.mets.length c1,.slice a2 p.wins.length c2,.slice a3 p.crons.length c3,.slice a4 p.gs.length c4,.slice a5 p.fin.parts.length c5⟩) [.int .i64 t] [.int .i64 0,.slice none 0 0,.slice none 0 0] [.int .i64 0]
 generalize hW0:(((w.alloc _).alloc _).alloc _).alloc _=W0 at *
 clear hW0
 refine⟨trivial,?_⟩
 refine CallsIn.mono (callsIn_wide.2 (HFo.out W0 B0)) ?_
 rintro r W1 ⟨rfl,b1⟩
 have X0':=X0.next b1
 have X1':=(b1.block (w.heap.size+1) (by omega)).trans X1
 have X2':=(b1.block (w.heap.size+2) (by omega)).trans X2
 have X3':=(b1.block (w.heap.size+3) (by omega)).trans X3
 have B1:=a0b B0 b1 B0.size
 have hz1:w.heap.size+4<=W1.heap.size:=by have:=b1.size;omega
 clear X0 X1 X2 X3 b1 B0 HFo
 have E2:=Box.ofBlock X2'
 have E3:=Box.ofBlock X3'
 obtain⟨e0,e1,e2⟩:=Box.c3 E2
 have f0:=E2.free 0 (by simp)
 have f1:=E2.free 1 (by simp)
 have f2:=E2.free 2 (by simp)
 have el:=E2.lt
 have r0:=E3.cell 0 _ rfl
 have rf:=E3.free 0 (by simp)
 have rl:=E3.lt
 have x0:=X0'.cell 0 _ rfl
 have xl:=X0'.lt
 obtain⟨fo,hfo⟩:∃ fo,Hid (a0s q p=fo):=⟨_,rfl⟩
 rw[hfo.out]
 cases fo with
 | false=>
   have HB1:=a0a B1
   have hmf:Hid (a1v q p l t rep nm=(⟨0,[],[]⟩,1)):=a0a (by unfold a1v;rw[if_pos hfo.out])
   gi_wp2
   refine⟨.tuple #[.agg #[.int .i64 0,.slice none 0 0,.slice none 0 0],.int .i64 1],by simp[results,Tryz.results11,go_sem, *],?_⟩
   exact⟨_,_,by rw[hmf.out],by rw[hmf.out];exact b0P _,(((HB1.out.setCell (p:=⟨w.heap.size+2,0,none⟩) (by simp) _).setCell (p:=⟨w.heap.size+2,1,none⟩) (by simp) _).setCell (p:=⟨w.heap.size+2,2,none⟩) (by simp) _).setCell (p:=⟨w.heap.size+3,0,none⟩) (by simp) _,a8z _⟩
 | true=>
   obtain⟨i0,hi,hz2,hz3,hz4⟩:=b6F
   have hMl:p.mets.length<=64:=HMl.out hfo.out
   gi_wp2_with (gi_at_make;refine b9v _ rfl _ _ 72 rfl (w.heap.size+4) 76 i0 (.slice none 0 0) 1 Tryz.underlying72 hi hz2 hz3 _ _ _ _ p.mets.length rfl rfl rfl rfl (by rw[hz4];omega) (by unfold maxLen;omega) hz1 ?_)
   intro W2 hrow hgr
   have hb2:Below W1.heap.size W1 W2:=⟨hgr.os,hgr.tape,hgr.output,hgr.size,fun k hk=>hgr.block k hk (by simp)⟩
   have SM0:=b5K hrow
   obtain⟨S,hS⟩:∃ S,Hid (S=W1.heap.size):=⟨_,rfl⟩
   rw[<-hS.out] at SM0 ⊢
   have X0a:=X0'.next hb2
   have X1a:=(hb2.block (w.heap.size+1) (by omega)).trans X1'
   have X2a:=(hb2.block (w.heap.size+2) (by omega)).trans X2'
   have X3a:=(hb2.block (w.heap.size+3) (by omega)).trans X3'
   have B2:=a0b B1 hb2 B1.size
   have hz5:w.heap.size+4<=W2.heap.size:=ZC hz1 hb2.size
   clear hrow hgr X0' X1' X2' X3' e0 e1 e2 f0 f1 f2 el r0 rf rl x0 xl E2 E3 B1 hb2
   have x0:=X0a.cell 0 _ rfl
   have xl:=X0a.lt
   gi_wp2
   have SM1:=SM0.kept (World.grownBy_alloc W2 (.cells #[.slice (some ⟨S,0,none⟩) p.mets.length p.mets.length] 72) none) (fun r cs t fr e=>by cases e)
   have b3:=(ZD W2.heap.size W2).alloc (ZB _) (.cells #[.slice (some ⟨S,0,none⟩) p.mets.length p.mets.length] 72)
   have hbs:=Boxed.new W2 72 (.slice (some ⟨S,0,none⟩) p.mets.length p.mets.length)
   have X0b:=X0a.next b3
   have X1b:=(b3.block (w.heap.size+1) (by omega)).trans X1a
   have X2b:=(b3.block (w.heap.size+2) (by omega)).trans X2a
   have X3b:=(b3.block (w.heap.size+3) (by omega)).trans X3a
   have B3:=a0b B2 b3 B2.size
   obtain⟨bs,hbsE⟩:∃ bs,Hid (bs=W2.heap.size):=⟨_,rfl⟩
   have hbs4:w.heap.size+4<=bs:=by rw[hbsE.out];exact hz5
   have hz6:w.heap.size+4<=(W2.alloc (.cells #[.slice (some ⟨S,0,none⟩) p.mets.length p.mets.length] 72)).heap.size:=ZC hz5 b3.size
   rw[<-hbsE.out] at hbs ⊢
   generalize hW3:W2.alloc _=W3 at *
   clear hW3 SM0 X0a X1a X2a X3a B2 x0 xl b3
   refine⟨trivial,?_⟩
   refine CallsIn.mono (callsIn_wide.2 (b8L p.mets.length (.slice ea l.length ec) W3 ⟨_,_,_,rfl⟩)) ?_
   rintro r W4 ⟨bm,bl,rfl,hbm,hbl,hm4,hl4,b4⟩
   have SM2:=SM1.kept (a5z b4) (fun r cs t fr e=>by cases e)
   have hbs2:=a6A hbs b4
   have X0c:=X0b.next b4
   have X1c:=(b4.block (w.heap.size+1) (by omega)).trans X1b
   have X2c:=(b4.block (w.heap.size+2) (by omega)).trans X2b
   have X3c:=(b4.block (w.heap.size+3) (by omega)).trans X3b
   have B4:=a0b B3 b4 B3.size
   have hz7:w.heap.size+4<=W4.heap.size:=ZC hz6 b4.size
   clear SM1 hbs X0b X1b X2b X3b B3 b4 hz6
   gi_wp2
   refine a9l rfl (by decide) (gf:=48) (lb:=#[.pointer (some ⟨bm,0,none⟩),.pointer (some ⟨bl,0,none⟩)]) rfl trivial (enters_of Tryz.func48 (by kernel_rfl) rfl)
    (a9m 5 (by decide) bm bl p.mets.length l (.slice ea l.length ec) W4 w B4 hm4 hl4 HEv.out hok) a3i.trans (a3i.put B4.size) (ZD _ _) (fun _=>rfl)
    (c3S w W4 S bs p.mets.length p.mets.length t) (c4e w W4 p.mets.length t) (b6W w W4 S bs _ _ t (by omega)) (fun c=>b6V w W4 _ t c (by omega))
    ⟨⟨_,SM2⟩,hbs2,X2c,X3c,ZD _ _,fun x hx=>by cases hx⟩
    (fun x a' W=>∃ bx,W.heap[bx]? = some (Obj.cells (a3O x.1).toArray 69 (0,0))/\a'={tmps:=#[plV p ⟨.slice a1 p.mets.length c1,.slice a2 p.wins.length c2,.slice a3 p.crons.length c3,.slice a4 p.gs.length c4,.slice a5 p.fin.parts.length c5⟩,.slice ea l.length ec,.int .i64 t,.int .i64 rep,.pointer (some ⟨w.heap.size,0,none⟩),undef,.pointer (some ⟨w.heap.size+1,0,none⟩),undef,.pointer (some ⟨w.heap.size+1+1,0,none⟩),.pointer (some ⟨w.heap.size+1+1+1,0,none⟩),.pointer (some ⟨bs,0,none⟩),.pointer (some ⟨bx,0,none⟩),.agg #[.slice a1 p.mets.length c1,.int .i64 p.ru.mn,.int .i64 p.ru.mx,.int .i64 p.ru.st,.int .i64 p.ru.up,.int .i64 p.ru.dn,.slice a2 p.wins.length c2,.slice a3 p.crons.length c3,.int .i64 p.loc,.slice a4 p.gs.length c4,.int .i64 p.fin.op,.int .i64 p.fin.n,.int .i64 p.fin.m,.slice a5 p.fin.parts.length c5],.bool true,.bool false,undef,.pointer (some ⟨w.heap.size,0,none⟩),.slice a1 p.mets.length c1,.int .i64 (p.mets.length:Nat),.slice (some ⟨S,0,none⟩) p.mets.length p.mets.length,.pointer (some ⟨w.heap.size,0,none⟩),.slice a1 p.mets.length c1,.int .i64 (p.mets.length:Nat),.slice ea l.length ec,b7T bm bl,b8e x.1,undef,undef,undef,undef,undef,undef,undef,undef,undef,undef,undef,undef,undef,undef,undef,undef,undef,undef,undef,undef,undef,undef,undef,undef,undef,undef,undef,undef,undef,undef,undef,undef,undef,undef,undef],defers:=[]})
    (fun x s A B row ⟨bx,h1,h2⟩ hg hr=>⟨bx,a2d W4.heap.size bx (fun _:Unit=>(a3O x.1).toArray) 69 (by decide) () A B row h1 hg hr,h2⟩) ?assign ?body ?done ?stop
   case assign=>
    rintro lp pre x W K ⟨⟨us,hSM⟩,hbs3,hX2,hX3,hB,hall⟩ hK
    have hsw:w.heap.size<=W.heap.size:=by have:=hB.size;omega
    gi_wp2
    exact hK _ _ ((KeepsOthers.alloc _ _).from _) (a5x _ hsw) ⟨⟨us,hSM.kept (World.grownBy_alloc W _ none) (fun r cs t fr e=>by cases e)⟩,hbs3.alloc _,(Below.heap_alloc W _ _ (Array.getElem?_eq_some_iff.1 hX2).1).trans hX2,(Below.heap_alloc W _ _ (Array.getElem?_eq_some_iff.1 hX3).1).trans hX3,hB.alloc (by have:=hB.size;omega) _,hall⟩ ⟨W.heap.size,World.alloc_heap_new W _,rfl⟩
   case body=>
    clear SM2 hbs2 X2c X3c
    rintro lp pre x a' W ⟨⟨us,hSM⟩,hbs3,hX2,hX3,hB,hall⟩ ⟨bx,hbx,rfl⟩ hlt
    obtain⟨⟨ek,ei,ev,et⟩,hxo,hxk⟩:=x
    have hxk':=hxk
    unfold a1K at hxk'
    dsimp only at *
    have HBx:=a0a hbx
    have BX:=Box.ofBlock hbx
    obtain⟨x0,x1,x2,x3⟩:=Box.c4 BX
    have xl:=BX.lt
    have T1:=Box.ofBlock ((hB.block (w.heap.size+1) (by omega)).trans X1c)
    have t0:=T1.cell 0 _ rfl
    have tl:=T1.lt
    have E2:=Box.ofBlock hX2
    have E3:=Box.ofBlock hX3
    obtain⟨e0,e1,e2⟩:=Box.c3 E2
    have f0:=E2.free 0 (by simp)
    have f1:=E2.free 1 (by simp)
    have f2:=E2.free 2 (by simp)
    have el:=E2.lt
    have r0:=E3.cell 0 _ rfl
    have rf:=E3.free 0 (by simp)
    have rl:=E3.lt
    have s0:=hbs3.cell
    have sl:=hbs3.lt
    have HSM:=a0a hSM
    have HBs:=a0a hbs3
    have HX2:=a0a hX2
    have HX3:=a0a hX3
    have HBb:=a0a hB
    have HAll:=a0a hall
    clear BX T1 E2 E3 hbx hSM hbs3 hX2 hX3 hB hall
    by_cases htm:t<et
    ·have q1:=heap_setCell_same W (w.heap.size+2) 0 a8K 40 (.int .i64 0) HX2.out
     have q2:=heap_setCell_same _ (w.heap.size+2) 1 _ 40 (.slice none 0 0) q1
     have q3:=heap_setCell_same _ (w.heap.size+2) 2 _ 40 (.slice none 0 0) q2
     have HE2:Hid (((((W.setCell ⟨w.heap.size+2,0,none⟩ (.int .i64 0)).setCell ⟨w.heap.size+2,1,none⟩ (.slice none 0 0)).setCell ⟨w.heap.size+2,2,none⟩ (.slice none 0 0)).setCell ⟨w.heap.size+3,0,none⟩ (.int .i64 32)).heap[w.heap.size+2]? = some (Obj.cells a8K 40 (0,0))):=a1h (S:=w.heap.size+3) q3 (by omega)
     have q4:=a1h (S:=w.heap.size+2) (j:=2) (v:=.slice none 0 0) (a1h (S:=w.heap.size+2) (j:=1) (v:=.slice none 0 0) (a1h (S:=w.heap.size+2) (j:=0) (v:=.int .i64 0) HX3.out (by omega)) (by omega)) (by omega)
     have HE3:Hid (((((W.setCell ⟨w.heap.size+2,0,none⟩ (.int .i64 0)).setCell ⟨w.heap.size+2,1,none⟩ (.slice none 0 0)).setCell ⟨w.heap.size+2,2,none⟩ (.slice none 0 0)).setCell ⟨w.heap.size+3,0,none⟩ (.int .i64 32)).heap[w.heap.size+3]? = some (Obj.cells #[.int .i64 32] 41 (0,0))):=heap_setCell_same _ (w.heap.size+3) 0 _ 41 (.int .i64 32) q4
     clear q1 q2 q3 q4
     gi_wp2
     exact⟨((((KeepsOthers.setCell _ _ _).trans (KeepsOthers.setCell _ _ _)).trans (KeepsOthers.setCell _ _ _)).trans (KeepsOthers.setCell _ _ _)).from _,HE2.out,HE3.out,(((HBb.out.setCell (p:=⟨w.heap.size+2,0,none⟩) (by simp) _).setCell (p:=⟨w.heap.size+2,1,none⟩) (by simp) _).setCell (p:=⟨w.heap.size+2,2,none⟩) (by simp) _).setCell (p:=⟨w.heap.size+3,0,none⟩) (by simp) _,rfl,_,List.mem_append_right _ (List.mem_singleton.2 rfl),htm⟩
    ·by_cases hk1:ek=1
     ·subst hk1
      obtain⟨ji,hji⟩:∃ ji:Nat,ei=(ji:Int):=⟨ei.toNat,by simp at hxk';omega⟩
      subst hji
      have hjM:ji<p.mets.length:=by simp at hxk';omega
      have hjM':(ji:Int)<(p.mets.length:Int):=by omega
      gi_wp2
      refine b3k (fun w'=>w'.cell? ⟨bs,0,none⟩=some (.slice (some ⟨S,0,none⟩) p.mets.length p.mets.length)/\w'.cell? ⟨bx,1,none⟩=some (.int .i64 (ji:Nat))/\w'.cell? ⟨bx,2,none⟩=some (.int .i64 ev)/\w'.cell? ⟨bx,3,none⟩=some (.int .i64 et)) (by kernel_rfl) ?hp ?hQ ?_
      case hp=>
       intro o ho
       simp only[List.mem_cons,List.not_mem_nil,or_false] at ho
       rcases ho with rfl | rfl | rfl | rfl | rfl | rfl | rfl | rfl | rfl | rfl | rfl | rfl | rfl | rfl | rfl | rfl | rfl
       all_goals first
        | exact a8v _ _ _ rfl
        | exact b9g (fun c h=>by cases h) (fun a=>⟨_,rfl⟩)
        | exact b9h (fun c h=>by cases h) (fun a=>⟨_,rfl⟩)
      case hQ=>
       rintro⟨a,w',h⟩
       exact h
      have hS0:(W.drew).cell? ⟨bs,0,none⟩=some (.slice (some ⟨S,0,none⟩) p.mets.length p.mets.length)/\(W.drew).cell? ⟨bx,1,none⟩=some (.int .i64 (ji:Nat))/\(W.drew).cell? ⟨bx,2,none⟩=some (.int .i64 ev)/\(W.drew).cell? ⟨bx,3,none⟩=some (.int .i64 et):=⟨s0,x1,x2,x3⟩
      refine wpAnyH_take (i:=0) (v:=.slice (some ⟨S,0,none⟩) p.mets.length p.mets.length) rfl (by kernel_rfl) (by kernel_rfl) (by kernel_rfl) (fun _ _ _ h=>h) (Or.inl ⟨rfl,fun w' hS'=>?_⟩) hS0 ?_
      ·obtain⟨q0,q1,q2,q3⟩:=hS'
       go_simp
      refine wpAnyH_take (i:=1) (v:=.pointer (some ⟨bx,1,none⟩)) rfl (by kernel_rfl) (by kernel_rfl) (by kernel_rfl) (fun _ _ _ h=>h) (Or.inl ⟨rfl,fun w' hS'=>?_⟩) hS0 ?_
      ·obtain⟨q0,q1,q2,q3⟩:=hS'
       go_simp
      refine wpAnyH_take (i:=2) (v:=.int .i64 (ji:Nat)) rfl (by kernel_rfl) (by kernel_rfl) (by kernel_rfl) (fun _ _ _ h=>h) (Or.inl ⟨rfl,fun w' hS'=>?_⟩) hS0 ?_
      ·obtain⟨q0,q1,q2,q3⟩:=hS'
       go_simp
      refine wpAnyH_take (i:=3) (v:=.slice (some ⟨S,0,none⟩) p.mets.length p.mets.length) rfl (by kernel_rfl) (by kernel_rfl) (by kernel_rfl) (fun _ _ _ h=>h) (Or.inl ⟨rfl,fun w' hS'=>?_⟩) hS0 ?_
      ·obtain⟨q0,q1,q2,q3⟩:=hS'
       go_simp
      refine wpAnyH_take (i:=4) (v:=.pointer (some ⟨bx,1,none⟩)) rfl (by kernel_rfl) (by kernel_rfl) (by kernel_rfl) (fun _ _ _ h=>h) (Or.inl ⟨rfl,fun w' hS'=>?_⟩) hS0 ?_
      ·obtain⟨q0,q1,q2,q3⟩:=hS'
       go_simp
      refine wpAnyH_take (i:=5) (v:=.int .i64 (ji:Nat)) rfl (by kernel_rfl) (by kernel_rfl) (by kernel_rfl) (fun _ _ _ h=>h) (Or.inl ⟨rfl,fun w' hS'=>?_⟩) hS0 ?_
      ·obtain⟨q0,q1,q2,q3⟩:=hS'
       go_simp
      refine wpAnyH_take (i:=6) (v:=.pointer (some ⟨S,ji,none⟩)) rfl (by kernel_rfl) (by kernel_rfl) (by kernel_rfl) (fun _ _ _ h=>h) (Or.inl ⟨rfl,fun w' hS'=>?_⟩) hS0 ?_
      ·obtain⟨q0,q1,q2,q3⟩:=hS'
       go_simp
      refine wpAnyH_take (i:=8) (v:=.pointer (some ⟨bx,3,none⟩)) rfl (by kernel_rfl) (by kernel_rfl) (by kernel_rfl) (fun _ _ _ h=>h) (Or.inl ⟨rfl,fun w' hS'=>?_⟩) hS0 ?_
      ·obtain⟨q0,q1,q2,q3⟩:=hS'
       go_simp
      refine wpAnyH_take (i:=9) (v:=.int .i64 et) rfl (by kernel_rfl) (by kernel_rfl) (by kernel_rfl) (fun _ _ _ h=>h) (Or.inl ⟨rfl,fun w' hS'=>?_⟩) hS0 ?_
      ·obtain⟨q0,q1,q2,q3⟩:=hS'
       go_simp
      refine wpAnyH_take (i:=10) (v:=.pointer (some ⟨bx,2,none⟩)) rfl (by kernel_rfl) (by kernel_rfl) (by kernel_rfl) (fun _ _ _ h=>h) (Or.inl ⟨rfl,fun w' hS'=>?_⟩) hS0 ?_
      ·obtain⟨q0,q1,q2,q3⟩:=hS'
       go_simp
      refine wpAnyH_take (i:=11) (v:=.int .i64 ev) rfl (by kernel_rfl) (by kernel_rfl) (by kernel_rfl) (fun _ _ _ h=>h) (Or.inl ⟨rfl,fun w' hS'=>?_⟩) hS0 ?_
      ·obtain⟨q0,q1,q2,q3⟩:=hS'
       go_simp
      refine wpAnyH_take (i:=12) (v:=.agg #[.int .i64 et,.int .i64 ev]) rfl (by kernel_rfl) (by kernel_rfl) (by kernel_rfl) (fun _ _ _ h=>h) (Or.inl ⟨rfl,fun w' hS'=>?_⟩) hS0 ?_
      ·obtain⟨q0,q1,q2,q3⟩:=hS'
       go_simp
      obtain⟨ia,hia,ha0,ha1,ha2⟩:=b0I
      have z0:W.cell? ⟨S,ji,none⟩=some (us ji):=by
       have h:=HSM.out.row.cellAt ji (by omega)
       rw[h]
       simp[hjM]
      have hSl:S<W.heap.size:=(HSM.out.row.lt S rfl).2
      obtain⟨ua,uc,hue⟩:=a1i (HSM.out.own ji hjM)
      have hlen:(a1d (pre.map (·.1)) ji).length+1<=l.length:=by have:=a6Q (pre.map (·.1)) ji;rw[List.length_map] at this;omega
      have SM5:Hid (a7V (w.heap.size+4) S p.mets.length (a1d (pre.map (·.1))) us ((W.alloc (.cells #[.int .i64 et,.int .i64 ev] 78)).drew)):=a8g (HSM.out.kept (World.grownBy_alloc W _ none) (fun r cs t fr e=>by cases e))
      have HOw5:=a0a (SM5.out.own ji hjM)
      rw[hue] at HOw5
      have HNw:Hid (∀ j u,(smL (et,ev))[j]? = some u->((W.alloc (.cells #[.int .i64 et,.int .i64 ev] 78)).drew).cell? ((⟨W.heap.size,0,none⟩:Addr).add j)=some u):=a2R W (smL (et,ev)) 78 _ rfl
      have A5:∀ {b:Nat} {o':Obj},W.heap[b]? = some o'->((W.alloc (.cells #[.int .i64 et,.int .i64 ev] 78)).drew).heap[b]? = some o':=fun hb=>(Below.heap_alloc W _ _ (Array.getElem?_eq_some_iff.1 hb).1).trans hb
      have HCb:∀ {w':World},w'.heap[bs]? = some (Obj.cells #[.slice (some ⟨S,0,none⟩) p.mets.length p.mets.length] 72 (0,0))->w'.heap[bx]? = some (Obj.cells (a3O ⟨1,(ji:Int),ev,et⟩).toArray 69 (0,0))->w'.cell? ⟨bs,0,none⟩=some (.slice (some ⟨S,0,none⟩) p.mets.length p.mets.length)/\w'.cell? ⟨bx,1,none⟩=some (.int .i64 (ji:Nat))/\w'.cell? ⟨bx,2,none⟩=some (.int .i64 ev)/\w'.cell? ⟨bx,3,none⟩=some (.int .i64 et):=fun h1 h2=>⟨(Box.ofBlock h1).cell 0 _ rfl,(Box.ofBlock h2).cell 1 _ rfl,(Box.ofBlock h2).cell 2 _ rfl,(Box.ofBlock h2).cell 3 _ rfl⟩
      have hS5:=HCb (A5 HBs.out) (A5 HBx.out)
      have z5:((W.alloc (.cells #[.int .i64 et,.int .i64 ev] 78)).drew).cell? ⟨S,ji,none⟩=some (us ji):=by
       have h:=SM5.out.row.cellAt ji (by omega)
       rw[h]
       simp[hjM]
      have hSl5:S<((W.alloc (.cells #[.int .i64 et,.int .i64 ev] 78)).drew).heap.size:=(SM5.out.row.lt S rfl).2
      have HS6:Hid (∀ w6,((W.alloc (.cells #[.int .i64 et,.int .i64 ev] 78)).drew).grownBy w6 (us ji).ownBlock->w6.cell? ⟨bs,0,none⟩=some (.slice (some ⟨S,0,none⟩) p.mets.length p.mets.length)/\w6.cell? ⟨bx,1,none⟩=some (.int .i64 (ji:Nat))/\w6.cell? ⟨bx,2,none⟩=some (.int .i64 ev)/\w6.cell? ⟨bx,3,none⟩=some (.int .i64 et)):=fun w6 hg=>HCb (a1B SM5.out hjM hg (A5 HBs.out) (by decide)) (a1B SM5.out hjM hg (A5 HBx.out) (by decide))
      have hSne:∀ {b:Nat} {cs:Array Value} {ty:TypeId},W.heap[b]? = some (Obj.cells cs ty (0,0))->ty≠76->b≠S:=fun hb hty e=>by
       obtain⟨-,c,q⟩:=a0t HSM.out.row (r:=S) rfl
       rw[e,q] at hb
       simp only[Option.some.injEq,Obj.cells.injEq] at hb
       exact hty hb.2.1.symm
      have HS7':Hid (∀ w6 v',((W.alloc (.cells #[.int .i64 et,.int .i64 ev] 78)).drew).grownBy w6 (us ji).ownBlock->(w6.setCell ⟨S,ji,none⟩ v').cell? ⟨bs,0,none⟩=some (.slice (some ⟨S,0,none⟩) p.mets.length p.mets.length)/\(w6.setCell ⟨S,ji,none⟩ v').cell? ⟨bx,1,none⟩=some (.int .i64 (ji:Nat))/\(w6.setCell ⟨S,ji,none⟩ v').cell? ⟨bx,2,none⟩=some (.int .i64 ev)/\(w6.setCell ⟨S,ji,none⟩ v').cell? ⟨bx,3,none⟩=some (.int .i64 et)):=fun w6 v' hg=>HCb (a1h (a1B SM5.out hjM hg (A5 HBs.out) (by decide)) (hSne HBs.out (by decide))) (a1h (a1B SM5.out hjM hg (A5 HBx.out) (by decide)) (hSne HBx.out (by decide)))
      clear HCb hSne
      refine wpAnyH_ready (rs:=[7,13]) (by kernel_rfl) (by simp) (AllReadyH.cons (i:=7) (o:={dst:=some 41,op:=.load 76 (.tmp 40),type:=76,pos := "mean.go:30",after:=#[{on:=6,ground:=.data}],guard:=none}) rfl (fun K hK=>?_) (AllReadyH.cons (i:=13) (o:={dst:=some 47,op:=.buildSlice 76 1 #[(0,.tmp 46)],type:=76,pos := "mean.go:30",after:=#[{on:=12,ground:=.data}],guard:=none}) rfl (fun K hK=>?_) AllReadyH.nil))
      ·rw[if_pos (show Region.wanted _ _=true from rfl)]
       go_simp
       refine hK.out _ _ hS0 (fun _=>?_)
       clear hK
       refine wpAnyH_ready (rs:=[13]) (by kernel_rfl) (by simp) (AllReadyH.cons (i:=13) (o:={dst:=some 47,op:=.buildSlice 76 1 #[(0,.tmp 46)],type:=76,pos := "mean.go:30",after:=#[{on:=12,ground:=.data}],guard:=none}) rfl (fun K hK=>?_) AllReadyH.nil)
       rw[if_pos (show Region.wanted _ _=true from rfl)]
       go_simp
       refine hK.out _ _ hS5 (fun _=>?_)
       clear hK
       refine wpAnyH_ready (rs:=[14]) (by kernel_rfl) (by simp) (AllReadyH.cons (i:=14) (o:={dst:=some 48,op:=.call {callee:=.builtin .append,args:=#[.tmp 41,.tmp 47],argTypes:=#[76,76]},type:=76,pos := "mean.go:30",after:=#[{on:=7,ground:=.data},{on:=13,ground:=.data}],guard:=none}) rfl (fun K hK=>?_) AllReadyH.nil)
       rw[if_pos (show Region.wanted _ _=true from rfl)]
       refine wp_append_lies _ (.tmp 41) (.tmp 47) 76 rfl (w.heap.size+4) 78 ia (.agg #[.int .i64 0,.int .i64 0]) 2 16 Tryz.underlying76 hia ha0 ha1 ha2 rfl (by decide) (.slice ua (a1d (pre.map (·.1)) ji).length uc) _ _ rfl HOw5.out ⟨W.heap.size,0,none⟩ 1 1 (smL (et,ev)) rfl rfl HNw.out (by intro u hu;simp only[List.mem_cons,List.not_mem_nil,or_false] at hu;rcases hu with rfl | rfl<;>rfl) (by decide) (by unfold maxLen;omega) (by omega) (by simp;omega) _ rfl ?_
       intro g6 c6 w6 ho6 hg6 hb6 hl6
       rw[<-hue] at hg6 hb6
       refine hK.out _ _ (HS6.out w6 hg6) (fun hS6=>?_)
       clear hK
       refine wpAnyH_take (i:=15) (v:=.pointer (some ⟨S,ji,none⟩)) rfl (by kernel_rfl) (by kernel_rfl) (by kernel_rfl) (fun _ _ _ h=>h) (Or.inl ⟨rfl,fun w' hS'=>?_⟩) hS6 ?_
       ·go_simp
       refine wpAnyH_ready (rs:=[16]) (by kernel_rfl) (by simp) (AllReadyH.cons (i:=16) (o:={dst:=none,op:=.store 76 (.tmp 49) (.tmp 48),type:=0,pos := "mean.go:30",after:=#[{on:=15,ground:=.data},{on:=14,ground:=.data},{on:=14,ground:=.chain},{on:=0,ground:=.phase},{on:=1,ground:=.phase},{on:=2,ground:=.phase},{on:=3,ground:=.phase},{on:=4,ground:=.phase},{on:=5,ground:=.phase},{on:=6,ground:=.phase},{on:=7,ground:=.phase},{on:=8,ground:=.phase},{on:=9,ground:=.phase},{on:=10,ground:=.phase},{on:=11,ground:=.phase},{on:=12,ground:=.phase},{on:=13,ground:=.phase},{on:=14,ground:=.phase}],guard:=none}) rfl (fun K hK=>?_) AllReadyH.nil)
       rw[if_pos (show Region.wanted _ _=true from rfl)]
       obtain⟨c0,cf,cl⟩:=a8m SM5.out hjM hg6
       have HMo:=a0a (a8J (W4:=W4) (t:=t) (x:=⟨⟨1,(ji:Int),ev,et⟩,hxo,hxk⟩) rfl rfl rfl rfl (by omega) HSM.out HBs.out HX2.out HX3.out HBb.out HAll.out hjM ho6 hg6 (by rcases hb6 with h | h;exact .inl h.symm;exact .inr (by rw[h];rfl)))
       have HS7:=a0a (HS7'.out w6 (.slice (some ⟨g6,0,none⟩) ((a1d (pre.map (·.1)) ji).length+1) c6) hg6)
       clear ho6 hb6
       go_simp
       refine hK.out _ _ HS7.out (fun _=>?_)
       refine wpAnyH_done (by kernel_rfl) ?_ _
       exact⟨HMo.out.1.from _,HMo.out.2.1,HMo.out.2.2⟩
      ·rw[if_pos (show Region.wanted _ _=true from rfl)]
       go_simp
       refine hK.out _ _ hS5 (fun _=>?_)
       clear hK
       refine wpAnyH_ready (rs:=[7]) (by kernel_rfl) (by simp) (AllReadyH.cons (i:=7) (o:={dst:=some 41,op:=.load 76 (.tmp 40),type:=76,pos := "mean.go:30",after:=#[{on:=6,ground:=.data}],guard:=none}) rfl (fun K hK=>?_) AllReadyH.nil)
       rw[if_pos (show Region.wanted _ _=true from rfl)]
       go_simp
       refine hK.out _ _ hS5 (fun _=>?_)
       clear hK
       refine wpAnyH_ready (rs:=[14]) (by kernel_rfl) (by simp) (AllReadyH.cons (i:=14) (o:={dst:=some 48,op:=.call {callee:=.builtin .append,args:=#[.tmp 41,.tmp 47],argTypes:=#[76,76]},type:=76,pos := "mean.go:30",after:=#[{on:=7,ground:=.data},{on:=13,ground:=.data}],guard:=none}) rfl (fun K hK=>?_) AllReadyH.nil)
       rw[if_pos (show Region.wanted _ _=true from rfl)]
       refine wp_append_lies _ (.tmp 41) (.tmp 47) 76 rfl (w.heap.size+4) 78 ia (.agg #[.int .i64 0,.int .i64 0]) 2 16 Tryz.underlying76 hia ha0 ha1 ha2 rfl (by decide) (.slice ua (a1d (pre.map (·.1)) ji).length uc) _ _ rfl HOw5.out ⟨W.heap.size,0,none⟩ 1 1 (smL (et,ev)) rfl rfl HNw.out (by intro u hu;simp only[List.mem_cons,List.not_mem_nil,or_false] at hu;rcases hu with rfl | rfl<;>rfl) (by decide) (by unfold maxLen;omega) (by omega) (by simp;omega) _ rfl ?_
       intro g6 c6 w6 ho6 hg6 hb6 hl6
       rw[<-hue] at hg6 hb6
       refine hK.out _ _ (HS6.out w6 hg6) (fun hS6=>?_)
       clear hK
       refine wpAnyH_take (i:=15) (v:=.pointer (some ⟨S,ji,none⟩)) rfl (by kernel_rfl) (by kernel_rfl) (by kernel_rfl) (fun _ _ _ h=>h) (Or.inl ⟨rfl,fun w' hS'=>?_⟩) hS6 ?_
       ·go_simp
       refine wpAnyH_ready (rs:=[16]) (by kernel_rfl) (by simp) (AllReadyH.cons (i:=16) (o:={dst:=none,op:=.store 76 (.tmp 49) (.tmp 48),type:=0,pos := "mean.go:30",after:=#[{on:=15,ground:=.data},{on:=14,ground:=.data},{on:=14,ground:=.chain},{on:=0,ground:=.phase},{on:=1,ground:=.phase},{on:=2,ground:=.phase},{on:=3,ground:=.phase},{on:=4,ground:=.phase},{on:=5,ground:=.phase},{on:=6,ground:=.phase},{on:=7,ground:=.phase},{on:=8,ground:=.phase},{on:=9,ground:=.phase},{on:=10,ground:=.phase},{on:=11,ground:=.phase},{on:=12,ground:=.phase},{on:=13,ground:=.phase},{on:=14,ground:=.phase}],guard:=none}) rfl (fun K hK=>?_) AllReadyH.nil)
       rw[if_pos (show Region.wanted _ _=true from rfl)]
       obtain⟨c0,cf,cl⟩:=a8m SM5.out hjM hg6
       have HMo:=a0a (a8J (W4:=W4) (t:=t) (x:=⟨⟨1,(ji:Int),ev,et⟩,hxo,hxk⟩) rfl rfl rfl rfl (by omega) HSM.out HBs.out HX2.out HX3.out HBb.out HAll.out hjM ho6 hg6 (by rcases hb6 with h | h;exact .inl h.symm;exact .inr (by rw[h];rfl)))
       have HS7:=a0a (HS7'.out w6 (.slice (some ⟨g6,0,none⟩) ((a1d (pre.map (·.1)) ji).length+1) c6) hg6)
       clear ho6 hb6
       go_simp
       refine hK.out _ _ HS7.out (fun _=>?_)
       refine wpAnyH_done (by kernel_rfl) ?_ _
       exact⟨HMo.out.1.from _,HMo.out.2.1,HMo.out.2.2⟩
     ·have k1:(ek==1)=false:=by simpa using hk1
      have hsm:Hid (a1d ((pre++[(⟨⟨ek,ei,ev,et⟩,hxo,hxk⟩:KEv p.mets.length)]).map (·.1))=a1d (pre.map (·.1))):=by
       show _=_
       funext j
       rw[List.map_append]
       show a1d (pre.map (·.1)++[⟨ek,ei,ev,et⟩]) j=_
       rw[a3T,if_neg (fun h=>hk1 h.1)]
      gi_wp2
      refine⟨KeepsFrom.refl _ _,⟨ZD _ _,fun _ _ _ _ h _=>h⟩,⟨us,by rw[hsm.out];exact HSM.out⟩,HBs.out,HX2.out,HX3.out,HBb.out,fun y hy=>?_⟩
      rcases List.mem_append.1 hy with h | h
      ·exact HAll.out y h
      ·have:=List.mem_singleton.1 h
       subst this
       show et<=t
       omega
   case done=>
    rintro D ys W hD hys ⟨⟨us,hSM⟩,hbs3,hX2,hX3,hB,hall⟩ hK
    have P0:=a8T X0c (hB.block w.heap.size (by omega)) hB.size
    have T1:=Box.ofBlock ((hB.block (w.heap.size+1) (by omega)).trans X1c)
    have t0:=T1.cell 0 _ rfl
    have tl:=T1.lt
    have p6:=P0.cell 6 _ rfl
    have p7:=P0.cell 7 _ rfl
    have pl:=P0.lt
    have s0:=hbs3.cell
    have sl:=hbs3.lt
    have hsz:=a0J hfo.out
    have hSS:=hSM.lists
    rw[hys] at hSS
    have hall2:∀ x,x∈a1y p.mets.length l->x.time<=t:=fun x hx=>by
     rw[<-hys] at hx
     obtain⟨y,hy,rfl⟩:=List.mem_map.1 hx
     exact hall y hy
    have hall3:=a0a hall2
    have hin:Hid (∀ j y,y∈a1d (a1y p.mets.length l) j->a1n y.2):=fun j y hy=>((a5g hok hall2 j).le y hy).2.2
    have HBw:Hid (Below w.heap.size w W):=a0a (B4.trans (hB.mono (by omega)))
    have HTo:=a0a (fun W' (hW':Below W.heap.size W W')=>c0X p.wins (.slice a2 p.wins.length c2) (.slice (some ⟨S,0,none⟩) p.mets.length p.mets.length) p.mets.length (a1d (a1y p.mets.length l)) t W' (a0Q.next HS.out.wi (a0b HBw.out hW' HBw.out.size)) (hSS.next hW') (a3Q hfo.out HS.out.wok) (fun i _=>a5g hok hall2 i) ht (by omega))
    have HNa:=a0a (fun W' (hW':Below W.heap.size W W')=>b9q p.crons (.slice a3 p.crons.length c3) t nm W' (a0Q.next HS.out.cr (a0b HBw.out hW' HBw.out.size)) (by omega) (fun c hc W'' hW''=>hnm c hc W'' (a0b HBw.out (a0b hW' hW'' hW'.size) HBw.out.size)))
    have E2:=Box.ofBlock hX2
    have E3:=Box.ofBlock hX3
    have HP0:=a0a P0
    have HT1:=a0a T1
    have HBs:=a0a hbs3
    have HX2:=a0a hX2
    have HX3:=a0a hX3
    have HK:=a0a hK
    have HD:=a0a hD
    have HBB:=a0a hB
    have w2l:w.heap.size+2<W.heap.size:=E2.lt
    have w3l:w.heap.size+3<W.heap.size:=E3.lt
    clear P0 T1 hSM hSS hX2 hX3 hB hall hK hbs3 E2 E3 hys hall2
    gi_wp2
    refine wpIn_wide.2 ?_
    go_region_held3 (fun w'=>w'.cell? ⟨w.heap.size,6,none⟩=some (.slice a2 p.wins.length c2)/\w'.cell? ⟨w.heap.size,7,none⟩=some (.slice a3 p.crons.length c3)/\w'.cell? ⟨bs,0,none⟩=some (.slice (some ⟨S,0,none⟩) p.mets.length p.mets.length)/\w'.cell? ⟨w.heap.size+1,0,none⟩=some (.int .i64 t)) (simp[go_sem, *]) (first
     | (go_at_call 27;refine ZE (HTo.out _ (by exact a0j (ZD _ _) _)) ?_;rintro e w1 ⟨u1,rfl,o1,b1⟩;obtain⟨d1,z1,rfl⟩:=a1i o1;have Hu1:Hid (Below W.heap.size W w1):=⟨b1.os,b1.tape,b1.output,b1.size,b1.block⟩;have HO1:=a0a o1;replace p6:=a0c Hu1.out p6;replace p7:=a0c Hu1.out p7;replace s0:=a0c Hu1.out s0;replace t0:=a0c Hu1.out t0;replace pl:=ZA pl Hu1.out.size;replace sl:=ZA sl Hu1.out.size;replace tl:=ZA tl Hu1.out.size;clear b1 o1)
     | (go_at_call 28;refine ZE (HNa.out _ Hu1.out) ?_;rintro e w2 ⟨u2,rfl,o2,b2⟩;obtain⟨d2,z2,rfl⟩:=a1i o2;have Hu2:Hid (Below W.heap.size W w2):=kb Hu1 b2;have HO2:=a0a o2;have HO1':=a0a (a2Z HO1.out b2);replace p6:=a0c b2 p6;replace p7:=a0c b2 p7;replace s0:=a0c b2 s0;replace t0:=a0c b2 t0;have e0:=a0c Hu2.out ((Box.ofBlock HX2.out).cell 0 _ rfl);have e1:=a0c Hu2.out ((Box.ofBlock HX2.out).cell 1 _ rfl);have e2:=a0c Hu2.out ((Box.ofBlock HX2.out).cell 2 _ rfl);have r0:=a0c Hu2.out ((Box.ofBlock HX3.out).cell 0 _ rfl);have f0:=(Hu2.out.frozen (p:=⟨w.heap.size+2,0,none⟩) w2l).trans ((Box.ofBlock HX2.out).free 0 (by simp));have f1:=(Hu2.out.frozen (p:=⟨w.heap.size+2,1,none⟩) w2l).trans ((Box.ofBlock HX2.out).free 1 (by simp));have f2:=(Hu2.out.frozen (p:=⟨w.heap.size+2,2,none⟩) w2l).trans ((Box.ofBlock HX2.out).free 2 (by simp));have rf:=(Hu2.out.frozen (p:=⟨w.heap.size+3,0,none⟩) w3l).trans ((Box.ofBlock HX3.out).free 0 (by simp));have w2l':=ZA w2l Hu2.out.size;have w3l':=ZA w3l Hu2.out.size;clear b2 o2))
    all_goals (
     have X2w:=(Hu2.out.block (w.heap.size+2) w2l).trans HX2.out
     have X3w:=(Hu2.out.block (w.heap.size+3) w3l).trans HX3.out
     have Dw:=(Hu2.out.block D (Array.getElem?_eq_some_iff.1 HK.out).1).trans HK.out
     have q1:=heap_setCell_same w2 (w.heap.size+2) 0 a8K 40 (.int .i64 rep) X2w
     have q2:=heap_setCell_same _ (w.heap.size+2) 1 _ 40 (.slice d1 p.wins.length z1) q1
     have q3:=heap_setCell_same _ (w.heap.size+2) 2 _ 40 (.slice d2 p.crons.length z2) q2
     have YD2:((((w2.setCell ⟨w.heap.size+2,0,none⟩ (.int .i64 rep)).setCell ⟨w.heap.size+2,1,none⟩ (.slice d1 p.wins.length z1)).setCell ⟨w.heap.size+2,2,none⟩ (.slice d2 p.crons.length z2)).setCell ⟨w.heap.size+3,0,none⟩ (.int .i64 0)).heap[w.heap.size+2]? = some (Obj.cells #[.int .i64 rep,.slice d1 p.wins.length z1,.slice d2 p.crons.length z2] 40 (0,0)):=a1h (S:=w.heap.size+3) q3 (by omega)
     have q4:=a1h (S:=w.heap.size+2) (j:=2) (v:=.slice d2 p.crons.length z2) (a1h (S:=w.heap.size+2) (j:=1) (v:=.slice d1 p.wins.length z1) (a1h (S:=w.heap.size+2) (j:=0) (v:=.int .i64 rep) X3w (by omega)) (by omega)) (by omega)
     have YD3:((((w2.setCell ⟨w.heap.size+2,0,none⟩ (.int .i64 rep)).setCell ⟨w.heap.size+2,1,none⟩ (.slice d1 p.wins.length z1)).setCell ⟨w.heap.size+2,2,none⟩ (.slice d2 p.crons.length z2)).setCell ⟨w.heap.size+3,0,none⟩ (.int .i64 0)).heap[w.heap.size+3]? = some (Obj.cells #[.int .i64 0] 41 (0,0)):=heap_setCell_same _ (w.heap.size+3) 0 _ 41 (.int .i64 0) q4
     have hD2:D≠w.heap.size+2:=by have:=HD.out;omega
     have hD3:D≠w.heap.size+3:=by have:=HD.out;omega
     have YD:((((w2.setCell ⟨w.heap.size+2,0,none⟩ (.int .i64 rep)).setCell ⟨w.heap.size+2,1,none⟩ (.slice d1 p.wins.length z1)).setCell ⟨w.heap.size+2,2,none⟩ (.slice d2 p.crons.length z2)).setCell ⟨w.heap.size+3,0,none⟩ (.int .i64 0)).heap[D]? = some (.deferred (some [])):=a1h (S:=w.heap.size+3) (a1h (S:=w.heap.size+2) (a1h (S:=w.heap.size+2) (a1h (S:=w.heap.size+2) Dw hD2) hD2) hD2) hD3
     have TD:a0h [w.heap.size+2,w.heap.size+3] w2 ((((w2.setCell ⟨w.heap.size+2,0,none⟩ (.int .i64 rep)).setCell ⟨w.heap.size+2,1,none⟩ (.slice d1 p.wins.length z1)).setCell ⟨w.heap.size+2,2,none⟩ (.slice d2 p.crons.length z2)).setCell ⟨w.heap.size+3,0,none⟩ (.int .i64 0)):=a0X (a0X (a0X (a0h.set w2 _ _ (by simp)) (a0h.set _ _ _ (by simp))) (a0h.set _ _ _ (by simp))) (a0h.set _ _ _ (by simp))
     have hmf:Hid (a1v q p l t rep nm=(⟨rep,p.wins.map (a1D (a1d (a1y p.mets.length l)) t),p.crons.map nm⟩,0)):=by
      show _=_
      unfold a1v
      rw[if_neg (by rw[hfo.out];simp),if_neg (fun ⟨x,hx,hxt⟩=>by have:=hall3.out x hx;omega)]
     have bDw:Below w.heap.size w ((((w2.setCell ⟨w.heap.size+2,0,none⟩ (.int .i64 rep)).setCell ⟨w.heap.size+2,1,none⟩ (.slice d1 p.wins.length z1)).setCell ⟨w.heap.size+2,2,none⟩ (.slice d2 p.crons.length z2)).setCell ⟨w.heap.size+3,0,none⟩ (.int .i64 0)):=by
      have b:=a0b HBw.out Hu2.out HBw.out.size
      exact⟨TD.os.trans b.os,TD.tape.trans b.tape,TD.output.trans b.output,ZC b.size TD.size,fun k hk=>(TD.block k (ZA hk b.size) (by simp;omega)).trans (b.block k hk)⟩
     have tk:∀ {B:Nat} {e:TypeId} {k n:Nat} {v:Value} {xs:List Value},w2.ownsRow B e k v n xs->W.heap.size<=B->((((w2.setCell ⟨w.heap.size+2,0,none⟩ (.int .i64 rep)).setCell ⟨w.heap.size+2,1,none⟩ (.slice d1 p.wins.length z1)).setCell ⟨w.heap.size+2,2,none⟩ (.slice d2 p.crons.length z2)).setCell ⟨w.heap.size+3,0,none⟩ (.int .i64 0)).ownsRow B e k v n xs:=fun {B} {_} {_} {_} {_} {_} ho hB=>by
      obtain⟨h1,h2 | ⟨g,cap,cur,h2,h3,h4,h5⟩⟩:=ho
      ·exact⟨h1,.inl h2⟩
      ·exact⟨h1,.inr ⟨g,cap,cur,h2,h3,(TD.block g (Array.getElem?_eq_some_iff.1 h4).1 (by simp;omega)).trans h4,h5⟩⟩
     have OD1:=tk (a5n W.heap.size HO1'.out (by simp)) (ZB _)
     have OD2:=tk (a5n W.heap.size HO2.out Hu1.out.size) (ZB _)
     clear q1 q2 q3 q4 X2w X3w Dw tk TD
     gi_wp2
     revert YD2 YD3 YD bDw OD1 OD2
     generalize ((((w2.setCell ⟨w.heap.size+2,0,none⟩ (.int .i64 rep)).setCell ⟨w.heap.size+2,1,none⟩ (.slice d1 p.wins.length z1)).setCell ⟨w.heap.size+2,2,none⟩ (.slice d2 p.crons.length z2)).setCell ⟨w.heap.size+3,0,none⟩ (.int .i64 0))=WD
     intro YD2 YD3 YD bDw OD1 OD2
     have hg:=grownBy_putObj' WD D (.deferred none)
     have Y2:=(hg.block (w.heap.size+2) (Array.getElem?_eq_some_iff.1 YD2).1 (fun e=>by cases e;exact hD2 rfl)).trans YD2
     have Y3:=(hg.block (w.heap.size+3) (Array.getElem?_eq_some_iff.1 YD3).1 (fun e=>by cases e;exact hD3 rfl)).trans YD3
     have k0:=(Box.ofBlock Y2).cell 0 _ rfl
     have k1:=(Box.ofBlock Y2).cell 1 _ rfl
     have k2:=(Box.ofBlock Y2).cell 2 _ rfl
     have kl:=(Box.ofBlock Y2).lt
     have k3:=(Box.ofBlock Y3).cell 0 _ rfl
     have kl3:=(Box.ofBlock Y3).lt
     have nrow:∀ {e:TypeId} {k n:Nat} {v:Value} {xs:List Value},WD.ownsRow W.heap.size e k v n xs->(WD.putObj D (.deferred none)).ownsRow W.heap.size e k v n xs:=fun ho=>a2a ho hg (fun r e h=>by
      cases e
      obtain⟨-,cur,q⟩:=a0t ho h
      rw[q] at YD
      cases YD)
     have O1:=nrow OD1
     have O2:=nrow OD2
     have BD:Below w.heap.size w (WD.putObj D (.deferred none)):=bDw.trans ⟨hg.os,hg.tape,hg.output,hg.size,fun k hk=>hg.block k (by have:=bDw.size;omega) (fun e=>by cases e;have:=HD.out;omega)⟩
     refine⟨by simp,.inl ⟨_,_,rfl,run_takeDeferred (ds:=[]) YD,?_⟩⟩
     have HO1f:=a0a O1
     have HO2f:=a0a O2
     have HBD:=a0a BD
     clear O1 O2 BD nrow hg Y2 Y3 OD1 OD2 bDw
     refine⟨.tuple #[.agg #[.int .i64 rep,.slice d1 p.wins.length z1,.slice d2 p.crons.length z2],.int .i64 0],by simp[results,Tryz.results11,go_sem, *],?_⟩
     exact⟨_,_,by rw[hmf.out],by rw[hmf.out];exact a7F hrep hsz.2.1 hsz.2.2 hin.out HO1f.out HO2f.out,HBD.out,⟨fun r h=>ZC HBw.out.size (a0t HO1f.out h).1,fun r h=>ZC HBw.out.size (a0t HO2f.out h).1⟩⟩)
   case stop=>
    rintro D c pre W hD ⟨k,-,hpk⟩ ⟨hX2,hX3,hB,rfl,x,hx,hxt⟩ hK
    have hmf:Hid (a1v q p l t rep nm=(⟨0,[],[]⟩,32)):=by
     show _=_
     unfold a1v
     rw[if_neg (by rw[hfo.out];simp),if_pos]
     obtain⟨r,hr⟩:=b5F p.mets.length l k
     exact⟨x.1,by rw[hr,<-hpk];exact List.mem_append_left _ (List.mem_map_of_mem hx),hxt⟩
    have hg:=grownBy_putObj' W D (.deferred none)
    have Y2:=(hg.block (w.heap.size+2) (Array.getElem?_eq_some_iff.1 hX2).1 (fun e=>by cases e;rw[hX2] at hK;cases hK)).trans hX2
    have Y3:=(hg.block (w.heap.size+3) (Array.getElem?_eq_some_iff.1 hX3).1 (fun e=>by cases e;rw[hX3] at hK;cases hK)).trans hX3
    have e0:=(Box.ofBlock Y2).cell 0 _ rfl
    have e1:=(Box.ofBlock Y2).cell 1 _ rfl
    have e2:=(Box.ofBlock Y2).cell 2 _ rfl
    have el:=(Box.ofBlock Y2).lt
    have r0:=(Box.ofBlock Y3).cell 0 _ rfl
    have rl:=(Box.ofBlock Y3).lt
    have HK:=a0a hK
    have HBW:Hid (Below w.heap.size w (W.putObj D (.deferred none))):=a0a ((B4.trans (hB.mono (by omega))).trans ⟨hg.os,hg.tape,hg.output,hg.size,fun k hk=>hg.block k (by have:=hB.size;omega) (fun e=>by cases e;omega)⟩)
    clear hK Y2 Y3 hg hX2 hX3
    gi_wp2
    refine⟨by simp,.inl ⟨_,_,rfl,run_takeDeferred (ds:=[]) HK.out,?_⟩⟩
    refine⟨.tuple #[.agg #[.int .i64 0,.slice none 0 0,.slice none 0 0],.int .i64 32],by simp[results,Tryz.results11,go_sem, *],?_⟩
    exact⟨_,_,by rw[hmf.out],by rw[hmf.out];exact b0P _,HBW.out,a8z _⟩
theorem b7Y (q:Co->Co->Bool)(hq:∀ a b,q a b=true↔a=b)(p:PlP)(v:PlV)(l:List EvP)(u:Value)(t rep:Int)(w:World)(hs:a4n w p v)(hF:a2M w)(hE:a4A w u l)(hok:∀ e,e∈l->b0j e)(hL:l.length*32<=140737488355328)(ht:a1n t)(hrep:C64 rep)(nm:Cr->Bool)(hnm:∀ c,c∈p.crons->∀ W,Below w.heap.size w W->Calls Tryz.prog 52 #[.agg (crL c).toArray,.int .i64 t] W fun e w'=>e=.returned (.bool (nm c))/\Below W.heap.size W w'):
 Calls Tryz.prog 11 #[plV p v,u,.int .i64 t,.int .i64 rep] w fun r w'=>∃ u1 u2,r=.returned (.tuple #[.agg #[.int .i64 (a1v q p l t rep nm).1.rep,u1,u2],.int .i64 (a1v q p l t rep nm).2])/\a3v w' (a1v q p l t rep nm).1 u1 u2/\Below w.heap.size w w':=
 (b9y q hq p v l u t rep w hs hF hE hok hL ht hrep nm hnm).mono fun _ _ ⟨u1,u2,h1,h2,h3,_⟩=>⟨u1,u2,h1,h2,h3⟩
end Go.Proofs.YtbddbnjhmdbkbaaGreatDoor
