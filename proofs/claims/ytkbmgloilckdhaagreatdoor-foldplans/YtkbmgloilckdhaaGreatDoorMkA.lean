import Derived.Test.YtkbmgloilckdhaaGreatDoorMgK
import Derived.Test.YtkbmgloilckdhaaGreatDoorMgM
namespace Go.Proofs.YtkbmgloilckdhaaGreatDoor
open Go.RowKit
theorem a4L {w:World}{B:Nat}{e:TypeId}{size n:Nat}{v:Value}{xs:List Value}(h:w.ownsRow B e size v n xs):∃ a c,v=.slice a n c:=by
 obtain⟨-,⟨h2,h3⟩ | ⟨g,cap,cur,h2,-⟩⟩:=h
 ·exact⟨none,0,by rw[h2,h3]⟩
 ·exact⟨_,_,h2⟩
theorem a7O {w:World}{B:Nat}{e:TypeId}{size n:Nat}{v:Value}{xs:List Value}(B':Nat)(h:w.ownsRow B e size v n xs)(hb:B'<=B):w.ownsRow B' e size v n xs:=by
 obtain⟨h1,h2 | ⟨g,cap,cur,h2,h3,h4⟩⟩:=h
 ·exact⟨h1,.inl h2⟩
 ·exact⟨h1,.inr ⟨g,cap,cur,h2,Nat.le_trans hb h3,h4⟩⟩
def a5g (w:World)(lo hi:Nat)(e:TypeId)(k:Nat)(v:Value)(n:Nat)(xs:List Value):Prop:=lo<=hi/\w.ownsRow lo e k v n xs/\∀ g,v.ownBlock=some g->g<hi
theorem a5g.of {w:World}{lo:Nat}{e:TypeId}{k n:Nat}{v:Value}{xs:List Value}(h:w.ownsRow lo e k v n xs)(h0:lo<=w.heap.size):a5g w lo w.heap.size e k v n xs:=⟨h0,h,fun g hg=>(h.lt g hg).2⟩
theorem a5g.keep {w w':World}{lo hi:Nat}{e:TypeId}{k n:Nat}{v:Value}{xs:List Value}(h:a5g w lo hi e k v n xs)(hk:∀ b,lo<=b->b<hi->w'.heap[b]? = w.heap[b]?):a5g w' lo hi e k v n xs:=by
 obtain⟨h0,⟨h1,h2 | ⟨g,cap,cur,h2,h3,h4,h5⟩⟩,h6⟩:=h
 ·exact⟨h0,⟨h1,.inl h2⟩,h6⟩
 ·exact⟨h0,⟨h1,.inr ⟨g,cap,cur,h2,h3,(hk g h3 (h6 g (by rw[h2];rfl))).trans h4,h5⟩⟩,h6⟩
theorem a7x.keep {w w':World}{gs:List (Co×Co)}{lo hi:Nat}{v:Value}(hs:w.heap.size<=w'.heap.size)(hk:∀ b,lo<=b->b<hi->w'.heap[b]? = w.heap[b]?)(h:a7x w gs lo hi v):a7x w' gs lo hi v:=by
 obtain⟨h0,h | ⟨g,s,us,vs,hv,h1,h2,h3,h4,h5,h6⟩⟩:=h
 ·exact⟨h0,.inl h⟩
 ·have hm:=a8U (fun i hi=>(h6 i hi).2.2.1)
  have hg:w'.heap[g]? = w.heap[g]?:=hk g h1 (by have:=hm 0 _ (Nat.zero_le _) (Nat.le_refl _);omega)
  refine⟨h0,.inr ⟨g,s,us,vs,hv,h1,h2,h3,by omega,⟨fun j hj=>(World.frozen?_of_block (a:=⟨g,j,none⟩) hg).trans (h5.1 j hj),by obtain⟨cs,o⟩:=h5.2;exact⟨cs,b4z o hg⟩⟩,fun i hi=>?_⟩⟩
  obtain⟨q1,q2,q3,q4⟩:=h6 i hi
  refine⟨q1.keep (fun j=>World.cell?_of_block (a:=⟨g,j,none⟩) hg),q2.keep (fun j=>World.cell?_of_block (a:=⟨g,j,none⟩) hg),q3,q4.keep hs (fun b hb1 hb2=>hk b ?_ ?_)⟩
  ·have:=hm 0 i (Nat.zero_le _) (by omega);omega
  ·have:=hm (i+1) _ (by omega) (Nat.le_refl _);omega
theorem a7x.wide {w:World}{gs:List (Co×Co)}{lo lo' hi:Nat}{v:Value}(h:a7x w gs lo hi v)(h1:lo'<=lo):a7x w gs lo' hi v:=by
 obtain⟨h0,h | ⟨g,s,us,vs,hv,q1,q2⟩⟩:=h
 ·exact⟨by omega,.inl h⟩
 ·exact⟨by omega,.inr ⟨g,s,us,vs,hv,by omega,q2⟩⟩
abbrev b8z (l:List ByteArray):List Value:=a1M (fun i=>[.string (l.getD i default)]) l.length
abbrev b8y (l:List WiP):List Value:=a1M (fun i=>wiL (l.getD i wi0)) l.length
abbrev c0r (l:List Cr):List Value:=a1M (fun i=>crL (l.getD i cr0)) l.length
structure PWt (p:PlP):Prop where
 me:p.mets.length*16<=140737488355328
 st:∀ x,x∈p.mets->x.size<=140737488355328
 wi:p.wins.length*32<=140737488355328
 cr:p.crons.length*40<=140737488355328
 gs:p.gs.length*96<=140737488355328
 co:∀ x,x∈p.gs->CWt x.1/\CWt x.2
 fi:CWt p.fin
structure b2j (w:World)(p:PlP)(v:PlV)(s0 s1 s2 s3 s4 s5:Nat):Prop where
 me:a5g w s0 s1 9 1 v.me p.mets.length (b8z p.mets)
 wi:a5g w s1 s2 51 4 v.wi p.wins.length (b8y p.wins)
 cr:a5g w s2 s3 54 5 v.cr p.crons.length (c0r p.crons)
 gs:a7x w p.gs s3 s4 v.gs
 fi:a3d w p.fin s4 s5 v.fi
 si:a0m w p.fin v.fi
 ga:a5h w v.gs p.gs
 top:s5<=w.heap.size
theorem b2j.le {w:World}{p:PlP}{v:PlV}{s0 s1 s2 s3 s4 s5:Nat}(h:b2j w p v s0 s1 s2 s3 s4 s5):s0<=s1/\s1<=s2/\s2<=s3/\s3<=s4/\s4<=s5:=⟨h.me.1,h.wi.1,h.cr.1,h.gs.1,(a2r.1 h.fi).1⟩
theorem b2j.keep {w w':World}{p:PlP}{v:PlV}{s0 s1 s2 s3 s4 s5:Nat}(h:b2j w p v s0 s1 s2 s3 s4 s5)(hs:w.heap.size<=w'.heap.size)(hk:∀ b,s0<=b->b<s5->w'.heap[b]? = w.heap[b]?):b2j w' p v s0 s1 s2 s3 s4 s5:=by
 obtain⟨e0,e1,e2,e3,e4⟩:=h.le
 have G:=a7x.keep hs (fun b h1 h2=>hk b (by omega) (by omega)) h.gs
 have F:=a3d.keep hs p.fin _ _ _ (fun b h1 h2=>hk b (by omega) (by omega)) h.fi
 exact⟨h.me.keep (fun b h1 h2=>hk b (by omega) (by omega)),h.wi.keep (fun b h1 h2=>hk b (by omega) (by omega)),h.cr.keep (fun b h1 h2=>hk b (by omega) (by omega)),G,F,a1c p.fin _ _ _ _ h.si F,a4k h.ga G,Nat.le_trans h.top hs⟩
theorem b2j.plan {w0 w:World}{p:PlP}{u v:PlV}{s0 s1 s2 s3 s4 s5:Nat}(h:b2j w p v s0 s1 s2 s3 s4 s5)(hp:a3c w0 p u):a3c w p v:=
 ⟨hp.ru,hp.loc,hp.wok,hp.cok,a1L (fun _=>rfl) h.me.2.1,a1L (fun _=>rfl) h.wi.2.1,a1L (fun _=>rfl) h.cr.2.1,h.ga,h.si⟩
set_option maxHeartbeats 8000000 in
set_option maxRecDepth 20000 in
theorem b7Q (hcl:∀ (s:ByteArray) (W:World),s.size<=140737488355328->Calls Tryz.prog 29 #[.string s] W fun e w'=>e=.returned (.string s)/\Below W.heap.size W w')(p:PlP)(v:PlV)(w:World)(hs:a3c w p v)(hp:PWt p):
 Calls Tryz.prog 16 #[plV p v] w fun e w'=>∃ (u:PlV) (s0 s1 s2 s3 s4 s5:Nat),e=.returned (plV p u)/\b2j w' p u s0 s1 s2 s3 s4 s5/\w.heap.size<=s0/\Below w.heap.size w w':=by
 have HE1:=a0a (fun W (hW:Below w.heap.size w W)=>b6p hcl p.mets hp.me hp.st v.me W (a0Y.next hs.me hW))
 have HE2:=a0a (fun W (hW:Below w.heap.size w W)=>b1B p.wins hp.wi v.wi W (a0Y.next hs.wi hW))
 have HE3:=a0a (fun W (hW:Below w.heap.size w W)=>b1C p.crons hp.cr v.cr W (a0Y.next hs.cr hW))
 have HE4:=a0a (fun W (hW:Below w.heap.size w W)=>b6q p.gs hp.gs hp.co v.gs W (hs.gs.next hW))
 have HE5:=a0a (fun W (hW:Below w.heap.size w W)=>a4n p.fin hp.fi v.fi W (hs.fi.next hW))
 obtain⟨a1,c1,a2,c2,a3,c3,a4,c4,a5,c5,rfl,g1,g2,g3,g4⟩:=hs.shapes
 obtain⟨Y0,Y1,Y2⟩:=a0e w 32 32 [.slice a1 p.mets.length c1,.int .i64 p.ru.mn,.int .i64 p.ru.mx,.int .i64 p.ru.st,.int .i64 p.ru.up,.int .i64 p.ru.dn,.slice a2 p.wins.length c2,.slice a3 p.crons.length c3,.int .i64 p.loc,.slice a4 p.gs.length c4,.int .i64 p.fin.op,.int .i64 p.fin.n,.int .i64 p.fin.m,.slice a5 p.fin.parts.length c5] [.slice none 0 0,.int .i64 0,.int .i64 0,.int .i64 0,.int .i64 0,.int .i64 0,.slice none 0 0,.slice none 0 0,.int .i64 0,.slice none 0 0,.int .i64 0,.int .i64 0,.int .i64 0,.slice none 0 0]
 have HY0:=a0a Y0
 have HY1:=a0a Y1
 have B0:=a0a Y2
 have HG:=a0a hs.gs
 have HFi:=a0a hs.fi
 have hsz:Hid (w.heap.size+1+1<=((w.alloc (.cells [.slice a1 p.mets.length c1,.int .i64 p.ru.mn,.int .i64 p.ru.mx,.int .i64 p.ru.st,.int .i64 p.ru.up,.int .i64 p.ru.dn,.slice a2 p.wins.length c2,.slice a3 p.crons.length c3,.int .i64 p.loc,.slice a4 p.gs.length c4,.int .i64 p.fin.op,.int .i64 p.fin.n,.int .i64 p.fin.m,.slice a5 p.fin.parts.length c5].toArray 32)).alloc (.cells [.slice none 0 0,.int .i64 0,.int .i64 0,.int .i64 0,.int .i64 0,.int .i64 0,.slice none 0 0,.slice none 0 0,.int .i64 0,.slice none 0 0,.int .i64 0,.int .i64 0,.int .i64 0,.slice none 0 0].toArray 32)).heap.size):=a0a (by simp)
 clear hs Y0 Y1 Y2 hcl hp g1 g2 g3 g4
 have x0:=HY0.out.cell 0 _ rfl
 have xl:=HY0.out.lt
 go_enter Tryz.func16,Tryz.ntmps16
 go_wp2_with fail
 obtain⟨S0,hS0⟩:∃ S0,Hid (S0=w.heap.size+1+1):=⟨_,rfl⟩
 have Z0:Hid (w.heap.size+1+1<=S0):=a0a (by rw[hS0.out];exact Nat.le_refl _)
 refine Calls.mono (HE1.out _ B0.out) ?_
 rintro e w1 ⟨u1,rfl,o,b⟩
 have F1:=a0a (a5g.of (a7O S0 o (by rw[hS0.out];simp)) (Nat.le_trans (by rw[hS0.out];simp) b.size))
 obtain⟨S1,hS1⟩:∃ S,Hid (S=w1.heap.size):=⟨_,rfl⟩
 rw[<-hS1.out] at F1
 have T1:Hid (S1<=w1.heap.size):=a0a (by rw[hS1.out];exact Nat.le_refl _)
 have Z1:Hid (w.heap.size+1+1<=S1):=a0a (by rw[hS1.out];exact Nat.le_trans (by simp) b.size)
 obtain⟨d1,e1,rfl⟩:=a4L o
 have C1:=kb B0 b
 replace HY0:=kn HY0 b
 replace HY1:=kn HY1 b
 clear x0 xl b o B0 HE1
 have x0:=HY0.out.cell 0 _ rfl
 have x1:=HY0.out.cell 6 _ rfl
 have f0:=HY0.out.free 0 (by simp)
 have xl:=HY0.out.lt
 go_wp2_with fail
 have B1:=a0a (C1.out.setCell (p:=⟨w.heap.size,0,none⟩) (Nat.le_refl _) (.slice d1 p.mets.length e1))
 have TT:=a0p.set (S:=[w.heap.size]) w1 ⟨w.heap.size,0,none⟩ (.slice d1 p.mets.length e1) (by simp)
 replace HY0:=a0a (HY0.out.set 0 (by simp) (.slice d1 p.mets.length e1))
 replace HY1:=a0a (HY1.out.other (q:=w.heap.size) (j:=0) (v:=(.slice d1 p.mets.length e1)) (by omega))
 replace F1:=a0a (F1.out.keep (fun x h1 hx=>TT.block x (by have:=T1.out;omega) (by have:=Z0.out;simp;omega)))
 replace T1:Hid (S1<=_):=Nat.le_trans T1.out TT.size
 generalize w1.setCell ⟨w.heap.size,0,none⟩ (.slice d1 p.mets.length e1)=v1 at *
 have T10:Hid (S1<=v1.heap.size):=T1
 clear TT C1 hS1
 refine Calls.mono (HE2.out _ B1.out) ?_
 rintro e w2 ⟨u2,rfl,o,b⟩
 replace F1:=a0a (F1.out.keep (fun x _ hx=>b.block x (by have:=T1.out;omega)))
 replace T1:Hid (S1<=w2.heap.size):=Nat.le_trans T1.out b.size
 have F2:=a0a (a5g.of (a7O S1 o T10.out) (Nat.le_trans T10.out b.size))
 obtain⟨S2,hS2⟩:∃ S,Hid (S=w2.heap.size):=⟨_,rfl⟩
 rw[<-hS2.out] at F2
 have T2:Hid (S2<=w2.heap.size):=a0a (by rw[hS2.out];exact Nat.le_refl _)
 have Z2:Hid (w.heap.size+1+1<=S2):=a0a (by rw[hS2.out];exact Nat.le_trans (Nat.le_trans Z1.out T10.out) b.size)
 obtain⟨d2,e2,rfl⟩:=a4L o
 have C2:=kb B1 b
 replace HY0:=kn HY0 b
 replace HY1:=kn HY1 b
 clear x0 xl b o B1 HE2 x1 f0
 have x0:=HY0.out.cell 6 _ rfl
 have x1:=HY0.out.cell 7 _ rfl
 have f0:=HY0.out.free 6 (by simp)
 have xl:=HY0.out.lt
 go_wp2_with fail
 have B2:=a0a (C2.out.setCell (p:=⟨w.heap.size,6,none⟩) (Nat.le_refl _) (.slice d2 p.wins.length e2))
 have TT:=a0p.set (S:=[w.heap.size]) w2 ⟨w.heap.size,6,none⟩ (.slice d2 p.wins.length e2) (by simp)
 replace HY0:=a0a (HY0.out.set 6 (by simp) (.slice d2 p.wins.length e2))
 replace HY1:=a0a (HY1.out.other (q:=w.heap.size) (j:=6) (v:=(.slice d2 p.wins.length e2)) (by omega))
 replace F1:=a0a (F1.out.keep (fun x h1 hx=>TT.block x (by have:=T1.out;omega) (by have:=Z0.out;simp;omega)))
 replace F2:=a0a (F2.out.keep (fun x h1 hx=>TT.block x (by have:=T2.out;omega) (by have:=Z1.out;simp;omega)))
 replace T1:Hid (S1<=_):=Nat.le_trans T1.out TT.size
 replace T2:Hid (S2<=_):=Nat.le_trans T2.out TT.size
 generalize w2.setCell ⟨w.heap.size,6,none⟩ (.slice d2 p.wins.length e2)=v2 at *
 have T20:Hid (S2<=v2.heap.size):=T2
 clear TT C2 hS2
 refine Calls.mono (HE3.out _ B2.out) ?_
 rintro e w3 ⟨u3,rfl,o,b⟩
 replace F1:=a0a (F1.out.keep (fun x _ hx=>b.block x (by have:=T1.out;omega)))
 replace F2:=a0a (F2.out.keep (fun x _ hx=>b.block x (by have:=T2.out;omega)))
 replace T1:Hid (S1<=w3.heap.size):=Nat.le_trans T1.out b.size
 replace T2:Hid (S2<=w3.heap.size):=Nat.le_trans T2.out b.size
 have F3:=a0a (a5g.of (a7O S2 o T20.out) (Nat.le_trans T20.out b.size))
 obtain⟨S3,hS3⟩:∃ S,Hid (S=w3.heap.size):=⟨_,rfl⟩
 rw[<-hS3.out] at F3
 have T3:Hid (S3<=w3.heap.size):=a0a (by rw[hS3.out];exact Nat.le_refl _)
 have Z3:Hid (w.heap.size+1+1<=S3):=a0a (by rw[hS3.out];exact Nat.le_trans (Nat.le_trans Z2.out T20.out) b.size)
 obtain⟨d3,e3,rfl⟩:=a4L o
 have C3:=kb B2 b
 replace HY0:=kn HY0 b
 replace HY1:=kn HY1 b
 clear x0 xl b o B2 HE3 x1 f0
 have x0:=HY0.out.cell 7 _ rfl
 have x1:=HY0.out.cell 9 _ rfl
 have f0:=HY0.out.free 7 (by simp)
 have xl:=HY0.out.lt
 go_wp2_with fail
 have B3:=a0a (C3.out.setCell (p:=⟨w.heap.size,7,none⟩) (Nat.le_refl _) (.slice d3 p.crons.length e3))
 have TT:=a0p.set (S:=[w.heap.size]) w3 ⟨w.heap.size,7,none⟩ (.slice d3 p.crons.length e3) (by simp)
 replace HY0:=a0a (HY0.out.set 7 (by simp) (.slice d3 p.crons.length e3))
 replace HY1:=a0a (HY1.out.other (q:=w.heap.size) (j:=7) (v:=(.slice d3 p.crons.length e3)) (by omega))
 replace F1:=a0a (F1.out.keep (fun x h1 hx=>TT.block x (by have:=T1.out;omega) (by have:=Z0.out;simp;omega)))
 replace F2:=a0a (F2.out.keep (fun x h1 hx=>TT.block x (by have:=T2.out;omega) (by have:=Z1.out;simp;omega)))
 replace F3:=a0a (F3.out.keep (fun x h1 hx=>TT.block x (by have:=T3.out;omega) (by have:=Z2.out;simp;omega)))
 replace T1:Hid (S1<=_):=Nat.le_trans T1.out TT.size
 replace T2:Hid (S2<=_):=Nat.le_trans T2.out TT.size
 replace T3:Hid (S3<=_):=Nat.le_trans T3.out TT.size
 generalize w3.setCell ⟨w.heap.size,7,none⟩ (.slice d3 p.crons.length e3)=v3 at *
 have T30:Hid (S3<=v3.heap.size):=T3
 clear TT C3 hS3
 refine Calls.mono (HE4.out _ B3.out) ?_
 rintro e w4 ⟨u4,rfl,oa,o,b⟩
 replace F1:=a0a (F1.out.keep (fun x _ hx=>b.block x (by have:=T1.out;omega)))
 replace F2:=a0a (F2.out.keep (fun x _ hx=>b.block x (by have:=T2.out;omega)))
 replace F3:=a0a (F3.out.keep (fun x _ hx=>b.block x (by have:=T3.out;omega)))
 replace T1:Hid (S1<=w4.heap.size):=Nat.le_trans T1.out b.size
 replace T2:Hid (S2<=w4.heap.size):=Nat.le_trans T2.out b.size
 replace T3:Hid (S3<=w4.heap.size):=Nat.le_trans T3.out b.size
 have F4:=a0a (a7x.wide o T30.out)
 obtain⟨S4,hS4⟩:∃ S,Hid (S=w4.heap.size):=⟨_,rfl⟩
 rw[<-hS4.out] at F4
 have T4:Hid (S4<=w4.heap.size):=a0a (by rw[hS4.out];exact Nat.le_refl _)
 have Z4:Hid (w.heap.size+1+1<=S4):=a0a (by rw[hS4.out];exact Nat.le_trans (Nat.le_trans Z3.out T30.out) b.size)
 obtain⟨d4,e4,rfl,-,-⟩:=oa.shape'
 have C4:=kb B3 b
 replace HY0:=kn HY0 b
 replace HY1:=kn HY1 b
 clear x0 xl b o oa B3 HE4 x1 f0
 have x0:=HY0.out.cell 9 _ rfl
 have x1:=HY0.out.cell 10 _ rfl
 have x2:=HY0.out.cell 11 _ rfl
 have x3:=HY0.out.cell 12 _ rfl
 have x4:=HY0.out.cell 13 _ rfl
 have f0:=HY0.out.free 9 (by simp)
 have xl:=HY0.out.lt
 go_wp2_with fail
 have B4:=a0a (C4.out.setCell (p:=⟨w.heap.size,9,none⟩) (Nat.le_refl _) (.slice d4 p.gs.length e4))
 have TT:=a0p.set (S:=[w.heap.size]) w4 ⟨w.heap.size,9,none⟩ (.slice d4 p.gs.length e4) (by simp)
 replace HY0:=a0a (HY0.out.set 9 (by simp) (.slice d4 p.gs.length e4))
 replace HY1:=a0a (HY1.out.other (q:=w.heap.size) (j:=9) (v:=(.slice d4 p.gs.length e4)) (by omega))
 replace F1:=a0a (F1.out.keep (fun x h1 hx=>TT.block x (by have:=T1.out;omega) (by have:=Z0.out;simp;omega)))
 replace F2:=a0a (F2.out.keep (fun x h1 hx=>TT.block x (by have:=T2.out;omega) (by have:=Z1.out;simp;omega)))
 replace F3:=a0a (F3.out.keep (fun x h1 hx=>TT.block x (by have:=T3.out;omega) (by have:=Z2.out;simp;omega)))
 replace F4:=a0a (a7x.keep TT.size (fun x h1 hx=>TT.block x (by have:=T4.out;omega) (by have:=Z3.out;simp;omega)) F4.out)
 replace T1:Hid (S1<=_):=Nat.le_trans T1.out TT.size
 replace T2:Hid (S2<=_):=Nat.le_trans T2.out TT.size
 replace T3:Hid (S3<=_):=Nat.le_trans T3.out TT.size
 replace T4:Hid (S4<=_):=Nat.le_trans T4.out TT.size
 generalize w4.setCell ⟨w.heap.size,9,none⟩ (.slice d4 p.gs.length e4)=v4 at *
 have T40:Hid (S4<=v4.heap.size):=T4
 clear TT C4 hS4
 refine Calls.mono (HE5.out _ B4.out) ?_
 rintro e w5 ⟨u5,rfl,oa,o,b⟩
 replace F1:=a0a (F1.out.keep (fun x _ hx=>b.block x (by have:=T1.out;omega)))
 replace F2:=a0a (F2.out.keep (fun x _ hx=>b.block x (by have:=T2.out;omega)))
 replace F3:=a0a (F3.out.keep (fun x _ hx=>b.block x (by have:=T3.out;omega)))
 replace F4:=a0a (a7x.keep b.size (fun x _ hx=>b.block x (by have:=T4.out;omega)) F4.out)
 replace T1:Hid (S1<=w5.heap.size):=Nat.le_trans T1.out b.size
 replace T2:Hid (S2<=w5.heap.size):=Nat.le_trans T2.out b.size
 replace T3:Hid (S3<=w5.heap.size):=Nat.le_trans T3.out b.size
 replace T4:Hid (S4<=w5.heap.size):=Nat.le_trans T4.out b.size
 have F5:=a0a (o.wide T40.out (Nat.le_refl _))
 obtain⟨S5,hS5⟩:∃ S,Hid (S=w5.heap.size):=⟨_,rfl⟩
 rw[<-hS5.out] at F5
 have T5:Hid (S5<=w5.heap.size):=a0a (by rw[hS5.out];exact Nat.le_refl _)
 have Z5:Hid (w.heap.size+1+1<=S5):=a0a (by rw[hS5.out];exact Nat.le_trans (Nat.le_trans Z4.out T40.out) b.size)
 obtain⟨d5,e5,rfl,-,-⟩:=oa.parts.shape
 have C5:=kb B4 b
 replace HY0:=kn HY0 b
 replace HY1:=kn HY1 b
 clear x0 xl b o oa B4 HE5 x1 f0 x2 x3 x4
 have key:Hid (∀ W,a0p [w.heap.size,w.heap.size+1] w5 W->∃ (u:PlV) (s0 s1 s2 s3 s4 s5:Nat),Ending.returned (plV p ⟨.slice d1 p.mets.length e1,.slice d2 p.wins.length e2,.slice d3 p.crons.length e3,.slice d4 p.gs.length e4,.slice d5 p.fin.parts.length e5⟩)=.returned (plV p u)/\b2j W p u s0 s1 s2 s3 s4 s5/\w.heap.size<=s0/\Below w.heap.size w W):=by
  show ∀ W,_
  intro W T
  have hz:=T.size
  have G1:=F1.out.keep (fun x h1 hx=>T.block x (by have:=T1.out;omega) (by have:=Z0.out;simp;omega))
  have G2:=F2.out.keep (fun x h1 hx=>T.block x (by have:=T2.out;omega) (by have:=Z1.out;simp;omega))
  have G3:=F3.out.keep (fun x h1 hx=>T.block x (by have:=T3.out;omega) (by have:=Z2.out;simp;omega))
  have G4:=a7x.keep T.size (fun x h1 hx=>T.block x (by have:=T4.out;omega) (by have:=Z3.out;simp;omega)) F4.out
  have G5:=a3d.keep T.size p.fin _ _ _ (fun x h1 hx=>T.block x (by have:=T5.out;omega) (by have:=Z4.out;simp;omega)) F5.out
  exact⟨⟨.slice d1 p.mets.length e1,.slice d2 p.wins.length e2,.slice d3 p.crons.length e3,.slice d4 p.gs.length e4,.slice d5 p.fin.parts.length e5⟩,S0,S1,S2,S3,S4,S5,rfl,⟨G1,G2,G3,G4,G5,a1c p.fin _ _ _ _ HFi.out G5,a4k HG.out G4,Nat.le_trans T5.out hz⟩,by have:=Z0.out;omega,⟨T.os.trans C5.out.os,T.tape.trans C5.out.tape,T.output.trans C5.out.output,Nat.le_trans C5.out.size hz,fun k hk=>(T.block k (Nat.lt_of_lt_of_le hk C5.out.size) (by simp;omega)).trans (C5.out.block k hk)⟩⟩
 have x0:=HY0.out.cell 0 _ rfl
 have y0:=HY1.out.cell 0 _ rfl
 have g0:=HY1.out.free 0 (by simp)
 have x1:=HY0.out.cell 1 _ rfl
 have y1:=HY1.out.cell 1 _ rfl
 have g1:=HY1.out.free 1 (by simp)
 have x2:=HY0.out.cell 2 _ rfl
 have y2:=HY1.out.cell 2 _ rfl
 have g2:=HY1.out.free 2 (by simp)
 have x3:=HY0.out.cell 3 _ rfl
 have y3:=HY1.out.cell 3 _ rfl
 have g3:=HY1.out.free 3 (by simp)
 have x4:=HY0.out.cell 4 _ rfl
 have y4:=HY1.out.cell 4 _ rfl
 have g4:=HY1.out.free 4 (by simp)
 have x5:=HY0.out.cell 5 _ rfl
 have y5:=HY1.out.cell 5 _ rfl
 have g5:=HY1.out.free 5 (by simp)
 have x6:=HY0.out.cell 6 _ rfl
 have y6:=HY1.out.cell 6 _ rfl
 have g6:=HY1.out.free 6 (by simp)
 have x7:=HY0.out.cell 7 _ rfl
 have y7:=HY1.out.cell 7 _ rfl
 have g7:=HY1.out.free 7 (by simp)
 have x8:=HY0.out.cell 8 _ rfl
 have y8:=HY1.out.cell 8 _ rfl
 have g8:=HY1.out.free 8 (by simp)
 have x9:=HY0.out.cell 9 _ rfl
 have y9:=HY1.out.cell 9 _ rfl
 have g9:=HY1.out.free 9 (by simp)
 have x10:=HY0.out.cell 10 _ rfl
 have y10:=HY1.out.cell 10 _ rfl
 have g10:=HY1.out.free 10 (by simp)
 have x11:=HY0.out.cell 11 _ rfl
 have y11:=HY1.out.cell 11 _ rfl
 have g11:=HY1.out.free 11 (by simp)
 have x12:=HY0.out.cell 12 _ rfl
 have y12:=HY1.out.cell 12 _ rfl
 have g12:=HY1.out.free 12 (by simp)
 have x13:=HY0.out.cell 13 _ rfl
 have y13:=HY1.out.cell 13 _ rfl
 have g13:=HY1.out.free 13 (by simp)
 have f10:=HY0.out.free 10 (by simp)
 have f11:=HY0.out.free 11 (by simp)
 have f12:=HY0.out.free 12 (by simp)
 have f13:=HY0.out.free 13 (by simp)
 have xl:=HY0.out.lt
 have yl:=HY1.out.lt
 clear F1 T1 Z1 F2 T2 Z2 F3 T3 Z3 F4 T4 Z4 F5 T5 Z5 HFi HG hsz Z0 hS0 T10 T20 T30 T40 hS5
 go_wp2_with fail
 refine bodyPost_ret (v:=plV p ⟨.slice d1 p.mets.length e1,.slice d2 p.wins.length e2,.slice d3 p.crons.length e3,.slice d4 p.gs.length e4,.slice d5 p.fin.parts.length e5⟩) (by simp[results,Tryz.results16,go_sem, *]) rfl ?_
 exact key.out _ (a0c (a0c (a0c (a0c (a0c (a0c (a0c (a0c (a0c (a0c (a0c (a0c (a0c (a0c (a0c (a0c (a0c (a0p.set w5 _ _ (by simp)) (a0p.set _ _ _ (by simp))) (a0p.set _ _ _ (by simp))) (a0p.set _ _ _ (by simp))) (a0p.set _ _ _ (by simp))) (a0p.set _ _ _ (by simp))) (a0p.set _ _ _ (by simp))) (a0p.set _ _ _ (by simp))) (a0p.set _ _ _ (by simp))) (a0p.set _ _ _ (by simp))) (a0p.set _ _ _ (by simp))) (a0p.set _ _ _ (by simp))) (a0p.set _ _ _ (by simp))) (a0p.set _ _ _ (by simp))) (a0p.set _ _ _ (by simp))) (a0p.set _ _ _ (by simp))) (a0p.set _ _ _ (by simp))) (a0p.set _ _ _ (by simp)))
end Go.Proofs.YtkbmgloilckdhaaGreatDoor
