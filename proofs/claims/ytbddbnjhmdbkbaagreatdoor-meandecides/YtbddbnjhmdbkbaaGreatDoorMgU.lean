import Derived.Test.YtbddbnjhmdbkbaaGreatDoorMrM
import Derived.Test.YtbddbnjhmdbkbaaGreatDoorCrN
import Derived.Test.YtbddbnjhmdbkbaaGreatDoorCrO
import Derived.Test.YtbddbnjhmdbkbaaGreatDoorMgR
namespace Go.Proofs.YtbddbnjhmdbkbaaGreatDoor
open Go.RowKit
theorem b3C {w:World}{v:Value}{l:List (Int×Int)}(h:a6q w v l){i:Nat}(hi:i<l.length):∃ b off cap,v=.slice (some ⟨b,off,none⟩) l.length cap/\b<w.heap.size/\w.cell? ⟨b,off+i*2,none⟩=some (.int .i64 (l.getD i (0,0)).1)/\w.cell? ⟨b,off+i*2+1,none⟩=some (.int .i64 (l.getD i (0,0)).2):=by
 obtain⟨ad,cap,rfl,h | ⟨b,off,rfl,hb,hc⟩⟩:=h
 ·rw[h] at hi;simp at hi
 ·exact⟨b,off,cap,rfl,hb,(hc i hi).1,(hc i hi).2⟩
theorem b3k {w:World}{v:Value}{l:List Bool}(h:a4d w v l){i:Nat}(hi:i<l.length):∃ b off cap,v=.slice (some ⟨b,off,none⟩) l.length cap/\b<w.heap.size/\w.cell? ⟨b,off+i,none⟩=some (.bool (l.getD i false)):=by
 obtain⟨ad,cap,rfl,h | ⟨b,off,rfl,hb,hc⟩⟩:=h
 ·rw[h] at hi;simp at hi
 ·exact⟨b,off,cap,rfl,hb,hc i hi⟩
set_option maxHeartbeats 8000000 in
set_option maxRecDepth 20000 in
theorem c0B (E:a0u)(n m:Int)  : REv E ⟨1,n,m,[]⟩:=by
 intro v v1 v2 w hs he
 have HE:=a0a he
 obtain⟨⟨o1,o2⟩,⟨n1,n2⟩,m1,m2⟩:=hs.fit
 dsimp only at n1 n2 m1 m2
 obtain⟨ad,cap,rfl,-,-⟩:=hs.parts.shape
 obtain⟨a1,c1,a2,c2,rfl,rfl⟩:=he.shape
 obtain⟨Y0,Y1,Y2,B0⟩:=a0r w 30 40 84 (coL ⟨1,n,m,[]⟩ (.slice ad 0 cap)) [.int .i64 E.rep,.slice a1 E.wins.length c1,.slice a2 E.crons.length c2] [.int .i64 0,.int .i64 0]
 have X2:=a0a Y2
 have HB0:=a0a B0
 obtain⟨c0,c1'⟩:=Box.c2 Y0
 have lc:=Y0.lt
 obtain⟨e0,e1,e2⟩:=Box.c3 Y1
 have le:=Y1.lt
 dsimp only at c0 c1'
 obtain⟨q0,q1⟩:=Box.c2 Y2
 have q2:=Y2.free 0 (by simp)
 have q3:=Y2.free 1 (by simp)
 have ql:=Y2.lt
 obtain⟨Q,hQ⟩:∃ Q,Hid (Q=a0d E ⟨1,n,m,[]⟩):=⟨_,a0a rfl⟩
 rw[<-hQ.out]
 have hQr:Hid (Q=okR n):=by show _=_;rw[hQ.out,a0f];rfl
 clear hs he Y0 Y1 Y2 B0 hQ
 go_enter Tryz.func64,Tryz.ntmps64
 go_wp2_with fail
 refine ZE (a1M _ _) ?_
 rintro e w2 ⟨rfl,b2⟩
 have HB2:=kb HB0 b2
 replace X2:=kn X2 b2
 clear b2
 replace q0:=X2.out.cell 0 _ rfl
 replace q1:=X2.out.cell 1 _ rfl
 replace q2:=X2.out.free 0 (by simp)
 replace q3:=X2.out.free 1 (by simp)
 replace ql:=X2.out.lt
 go_wp2_with fail
 refine bodyPost_ret (v:=reV (okR n)) (by simp[results,Tryz.results64,go_sem, *]) rfl ?_
 exact⟨by rw[hQr.out],(HB2.out.setCell (p:=⟨w.heap.size+1+1,0,none⟩) (by simp;omega) _).setCell (p:=⟨w.heap.size+1+1,1,none⟩) (by simp;omega) _⟩
set_option maxHeartbeats 8000000 in
set_option maxRecDepth 20000 in
theorem c0A (E:a0u)(n m:Int)  : REv E ⟨2,n,m,[]⟩:=by
 intro v v1 v2 w hs he
 have HE:=a0a he
 obtain⟨⟨o1,o2⟩,⟨n1,n2⟩,m1,m2⟩:=hs.fit
 dsimp only at n1 n2 m1 m2
 obtain⟨ad,cap,rfl,-,-⟩:=hs.parts.shape
 obtain⟨a1,c1,a2,c2,rfl,rfl⟩:=he.shape
 obtain⟨Y0,Y1,Y2,B0⟩:=a0r w 30 40 84 (coL ⟨2,n,m,[]⟩ (.slice ad 0 cap)) [.int .i64 E.rep,.slice a1 E.wins.length c1,.slice a2 E.crons.length c2] [.int .i64 0,.int .i64 0]
 have X2:=a0a Y2
 have HB0:=a0a B0
 obtain⟨c0,c1'⟩:=Box.c2 Y0
 have lc:=Y0.lt
 obtain⟨e0,e1,e2⟩:=Box.c3 Y1
 have le:=Y1.lt
 dsimp only at c0 c1'
 obtain⟨q0,q1⟩:=Box.c2 Y2
 have q2:=Y2.free 0 (by simp)
 have q3:=Y2.free 1 (by simp)
 have ql:=Y2.lt
 obtain⟨Q,hQ⟩:∃ Q,Hid (Q=a0d E ⟨2,n,m,[]⟩):=⟨_,a0a rfl⟩
 rw[<-hQ.out]
 have hQr:Hid (Q=okR n):=by show _=_;rw[hQ.out,a0f];rfl
 clear hs he Y0 Y1 Y2 B0 hQ
 go_enter Tryz.func64,Tryz.ntmps64
 go_wp2_with fail
 refine ZE (a1M _ _) ?_
 rintro e w2 ⟨rfl,b2⟩
 have HB2:=kb HB0 b2
 replace X2:=kn X2 b2
 clear b2
 replace q0:=X2.out.cell 0 _ rfl
 replace q1:=X2.out.cell 1 _ rfl
 replace q2:=X2.out.free 0 (by simp)
 replace q3:=X2.out.free 1 (by simp)
 replace ql:=X2.out.lt
 go_wp2_with fail
 refine bodyPost_ret (v:=reV (okR n)) (by simp[results,Tryz.results64,go_sem, *]) rfl ?_
 exact⟨by rw[hQr.out],(HB2.out.setCell (p:=⟨w.heap.size+1+1,0,none⟩) (by simp;omega) _).setCell (p:=⟨w.heap.size+1+1,1,none⟩) (by simp;omega) _⟩
set_option maxHeartbeats 8000000 in
set_option maxRecDepth 20000 in
theorem c0z (E:a0u)(n m:Int)(hR:C64 E.rep):REv E ⟨3,n,m,[]⟩:=by
 intro v v1 v2 w hs he
 have HE:=a0a he
 obtain⟨⟨o1,o2⟩,⟨n1,n2⟩,m1,m2⟩:=hs.fit
 dsimp only at n1 n2 m1 m2
 obtain⟨ad,cap,rfl,-,-⟩:=hs.parts.shape
 obtain⟨a1,c1,a2,c2,rfl,rfl⟩:=he.shape
 obtain⟨Y0,Y1,Y2,B0⟩:=a0r w 30 40 84 (coL ⟨3,n,m,[]⟩ (.slice ad 0 cap)) [.int .i64 E.rep,.slice a1 E.wins.length c1,.slice a2 E.crons.length c2] [.int .i64 0,.int .i64 0]
 have X2:=a0a Y2
 have HB0:=a0a B0
 obtain⟨c0,c1'⟩:=Box.c2 Y0
 have lc:=Y0.lt
 obtain⟨e0,e1,e2⟩:=Box.c3 Y1
 have le:=Y1.lt
 dsimp only at c0 c1'
 obtain⟨q0,q1⟩:=Box.c2 Y2
 have q2:=Y2.free 0 (by simp)
 have q3:=Y2.free 1 (by simp)
 have ql:=Y2.lt
 obtain⟨Q,hQ⟩:∃ Q,Hid (Q=a0d E ⟨3,n,m,[]⟩):=⟨_,a0a rfl⟩
 rw[<-hQ.out]
 have hQr:Hid (Q=okR (a0R (E.rep*1000000))):=by show _=_;rw[hQ.out,a0f];rfl
 have HW:=a0a (fun W:World=>b2q E.rep hR.1 (by have:=hR.2;omega) W)
 clear hs he Y0 Y1 Y2 B0 hQ
 go_enter Tryz.func64,Tryz.ntmps64
 go_wp2_with fail
 refine ZE (HW.out _) ?_
 rintro e w1 ⟨rfl,b1⟩
 have HB1:=kb HB0 b1
 replace X2:=kn X2 b1
 clear b1 c0 c1' lc e0 e1 e2 le q0 q1 q2 q3 ql
 obtain⟨q0,q1⟩:=Box.c2 X2.out
 have q2:=X2.out.free 0 (by simp)
 have q3:=X2.out.free 1 (by simp)
 have ql:=X2.out.lt
 go_wp2_with fail
 refine ZE (a1M _ _) ?_
 rintro e w2 ⟨rfl,b2⟩
 have HB2:=kb HB1 b2
 replace X2:=kn X2 b2
 clear b2
 replace q0:=X2.out.cell 0 _ rfl
 replace q1:=X2.out.cell 1 _ rfl
 replace q2:=X2.out.free 0 (by simp)
 replace q3:=X2.out.free 1 (by simp)
 replace ql:=X2.out.lt
 go_wp2_with fail
 refine bodyPost_ret (v:=reV (okR (a0R (E.rep*1000000)))) (by simp[results,Tryz.results64,go_sem, *]) rfl ?_
 exact⟨by rw[hQr.out],(HB2.out.setCell (p:=⟨w.heap.size+1+1,0,none⟩) (by simp;omega) _).setCell (p:=⟨w.heap.size+1+1,1,none⟩) (by simp;omega) _⟩
set_option maxHeartbeats 8000000 in
set_option maxRecDepth 20000 in
theorem c0y (E:a0u)(n m:Int)(hn:0<=n/\n<E.wins.length):REv E ⟨4,n,m,[]⟩:=by
 intro v v1 v2 w hs he
 have HE:=a0a he
 obtain⟨⟨o1,o2⟩,⟨n1,n2⟩,m1,m2⟩:=hs.fit
 dsimp only at n1 n2 m1 m2
 obtain⟨ad,cap,rfl,-,-⟩:=hs.parts.shape
 obtain⟨a1,c1,a2,c2,rfl,rfl⟩:=he.shape
 obtain⟨Y0,Y1,Y2,B0⟩:=a0r w 30 40 84 (coL ⟨4,n,m,[]⟩ (.slice ad 0 cap)) [.int .i64 E.rep,.slice a1 E.wins.length c1,.slice a2 E.crons.length c2] [.int .i64 0,.int .i64 0]
 have X2:=a0a Y2
 have HB0:=a0a B0
 obtain⟨c0,c1'⟩:=Box.c2 Y0
 have lc:=Y0.lt
 obtain⟨e0,e1,e2⟩:=Box.c3 Y1
 have le:=Y1.lt
 dsimp only at c0 c1'
 obtain⟨q0,q1⟩:=Box.c2 Y2
 have q2:=Y2.free 0 (by simp)
 have q3:=Y2.free 1 (by simp)
 have ql:=Y2.lt
 obtain⟨Q,hQ⟩:∃ Q,Hid (Q=a0d E ⟨4,n,m,[]⟩):=⟨_,a0a rfl⟩
 rw[<-hQ.out]
 obtain⟨hn0,hn1⟩:=hn
 obtain⟨i,rfl⟩:∃ i:Nat,n=(i:Int):=⟨n.toNat,by omega⟩
 have hi:i<E.wins.length:=by omega
 obtain⟨b,off,cp,ev,hb,h1,h2⟩:=b3C HE.out.wins hi
 simp only[Value.slice.injEq] at ev
 obtain⟨rfl,-,rfl⟩:=ev
 have hb1:b<w.heap.size+1:=by omega
 have hb2:b<w.heap.size+1+1:=by omega
 have hb3:b<w.heap.size+1+1+1:=by omega
 obtain⟨F,hF⟩:∃ F,Hid (F=(E.wins.getD i (0,0)).1):=⟨_,a0a rfl⟩
 obtain⟨S,hS⟩:∃ S,Hid (S=(E.wins.getD i (0,0)).2):=⟨_,a0a rfl⟩
 rw[<-hF.out] at h1
 rw[<-hS.out] at h2
 have HQ:Hid (Q=if F=0 then okR S else noR F):=by show _=_;rw[hQ.out,hF.out,hS.out,a0f];rfl
 clear hs he Y0 Y1 Y2 B0 hQ hF hS HE
 by_cases hz:F=0
 ·subst hz
  have hQr:Hid (Q=okR S):=HQ
  clear HQ
  go_enter Tryz.func64,Tryz.ntmps64
  go_wp2_with fail
  refine bodyPost_ret (v:=reV (okR S)) (by simp[results,Tryz.results64,go_sem, *]) rfl ?_
  exact⟨by rw[hQr.out],(((ZD _ _).alloc (ZB _) _).alloc (by simp) _).alloc (by simp;omega) _⟩
 ·have d0:(F != 0)=true:=by simpa using hz
  have hQr:Hid (Q=noR F):=by show _=_;rw[HQ.out];exact if_neg hz
  clear HQ hz
  go_enter Tryz.func64,Tryz.ntmps64
  go_wp2_with fail
  refine bodyPost_ret (v:=reV (noR F)) (by simp[results,Tryz.results64,go_sem, *]) rfl ?_
  exact⟨by rw[hQr.out],(((ZD _ _).alloc (ZB _) _).alloc (by simp) _).alloc (by simp;omega) _⟩
set_option maxHeartbeats 8000000 in
set_option maxRecDepth 20000 in
theorem c0x (E:a0u)(n m:Int)(hn:0<=n/\n<E.crons.length):REv E ⟨5,n,m,[]⟩:=by
 intro v v1 v2 w hs he
 have HE:=a0a he
 obtain⟨⟨o1,o2⟩,⟨n1,n2⟩,m1,m2⟩:=hs.fit
 dsimp only at n1 n2 m1 m2
 obtain⟨ad,cap,rfl,-,-⟩:=hs.parts.shape
 obtain⟨a1,c1,a2,c2,rfl,rfl⟩:=he.shape
 obtain⟨Y0,Y1,Y2,B0⟩:=a0r w 30 40 84 (coL ⟨5,n,m,[]⟩ (.slice ad 0 cap)) [.int .i64 E.rep,.slice a1 E.wins.length c1,.slice a2 E.crons.length c2] [.int .i64 0,.int .i64 0]
 have X2:=a0a Y2
 have HB0:=a0a B0
 obtain⟨c0,c1'⟩:=Box.c2 Y0
 have lc:=Y0.lt
 obtain⟨e0,e1,e2⟩:=Box.c3 Y1
 have le:=Y1.lt
 dsimp only at c0 c1'
 obtain⟨q0,q1⟩:=Box.c2 Y2
 have q2:=Y2.free 0 (by simp)
 have q3:=Y2.free 1 (by simp)
 have ql:=Y2.lt
 obtain⟨Q,hQ⟩:∃ Q,Hid (Q=a0d E ⟨5,n,m,[]⟩):=⟨_,a0a rfl⟩
 rw[<-hQ.out]
 obtain⟨hn0,hn1⟩:=hn
 obtain⟨i,rfl⟩:∃ i:Nat,n=(i:Int):=⟨n.toNat,by omega⟩
 have hi:i<E.crons.length:=by omega
 obtain⟨b,off,cp,ev,hb,h1⟩:=b3k HE.out.crons hi
 simp only[Value.slice.injEq] at ev
 obtain⟨rfl,-,rfl⟩:=ev
 have hb1:b<w.heap.size+1:=by omega
 have hb2:b<w.heap.size+1+1:=by omega
 have hb3:b<w.heap.size+1+1+1:=by omega
 obtain⟨F,hF⟩:∃ F,Hid (F=E.crons.getD i false):=⟨_,a0a rfl⟩
 rw[<-hF.out] at h1
 have hQr:Hid (Q=okR (b2i F)):=by show _=_;rw[hQ.out,hF.out,a0f];rfl
 clear hs he Y0 Y1 Y2 B0 hQ hF HE
 go_enter Tryz.func64,Tryz.ntmps64
 go_wp2_with fail
 refine ZE (a3c _ _) ?_
 rintro e w2 ⟨rfl,b2⟩
 have HB2:=kb HB0 b2
 replace X2:=kn X2 b2
 clear b2
 replace q0:=X2.out.cell 0 _ rfl
 replace q1:=X2.out.cell 1 _ rfl
 replace q2:=X2.out.free 0 (by simp)
 replace q3:=X2.out.free 1 (by simp)
 replace ql:=X2.out.lt
 go_wp2_with fail
 refine bodyPost_ret (v:=reV (okR (b2i F))) (by simp[results,Tryz.results64,go_sem, *]) rfl ?_
 exact⟨by rw[hQr.out],(HB2.out.setCell (p:=⟨w.heap.size+1+1,0,none⟩) (by simp;omega) _).setCell (p:=⟨w.heap.size+1+1,1,none⟩) (by simp;omega) _⟩
set_option maxHeartbeats 8000000 in
set_option maxRecDepth 20000 in
theorem c0w (E:a0u)(n m:Int)  : REv E ⟨6,n,m,[]⟩:=by
 intro v v1 v2 w hs he
 have HE:=a0a he
 obtain⟨⟨o1,o2⟩,⟨n1,n2⟩,m1,m2⟩:=hs.fit
 dsimp only at n1 n2 m1 m2
 obtain⟨ad,cap,rfl,-,-⟩:=hs.parts.shape
 obtain⟨a1,c1,a2,c2,rfl,rfl⟩:=he.shape
 obtain⟨Y0,Y1,Y2,B0⟩:=a0r w 30 40 84 (coL ⟨6,n,m,[]⟩ (.slice ad 0 cap)) [.int .i64 E.rep,.slice a1 E.wins.length c1,.slice a2 E.crons.length c2] [.int .i64 0,.int .i64 0]
 have X2:=a0a Y2
 have HB0:=a0a B0
 obtain⟨c0,c1'⟩:=Box.c2 Y0
 have lc:=Y0.lt
 obtain⟨e0,e1,e2⟩:=Box.c3 Y1
 have le:=Y1.lt
 dsimp only at c0 c1'
 obtain⟨q0,q1⟩:=Box.c2 Y2
 have q2:=Y2.free 0 (by simp)
 have q3:=Y2.free 1 (by simp)
 have ql:=Y2.lt
 obtain⟨Q,hQ⟩:∃ Q,Hid (Q=a0d E ⟨6,n,m,[]⟩):=⟨_,a0a rfl⟩
 rw[<-hQ.out]
 have hQr:Hid (Q=noR n):=by show _=_;rw[hQ.out,a0f];rfl
 clear hs he Y0 Y1 Y2 B0 hQ
 go_enter Tryz.func64,Tryz.ntmps64
 go_wp2_with fail
 refine bodyPost_ret (v:=reV (noR n)) (by simp[results,Tryz.results64,go_sem, *]) rfl ?_
 exact⟨by rw[hQr.out],(((ZD _ _).alloc (ZB _) _).alloc (by simp) _).alloc (by simp;omega) _⟩
theorem b3R {E:a0u}{x:Co}(h0:srt E x≠0)(h3:srt E x≠3):srt E x=1\/srt E x=2:=by
 have:=a1W E.wins.length E.crons.length 256 x
 show a0l a0J _ _ _ x=1\/a0l a0J _ _ _ x=2
 have a:a0l a0J E.wins.length E.crons.length 256 x≠0:=h0
 have b:a0l a0J E.wins.length E.crons.length 256 x≠3:=h3
 omega
theorem a9d (E:a0u)(hE:a6z E)(t:Co):b9a t->(srt E t=1\/srt E t=2)->REv E t:=by
 induction t using Co.ind with
 | h t ih=>
   intro hl h12
   have hz:srt E t≠0:=by omega
   obtain⟨k,hop,h1,h2,hb,hp,hs⟩:=a4z hz
   have hG:∀ x,x∈t.parts->b6C E x:=fun x hx=>a8c E hE x (hl.parts hx) (hp x hx)
   have hI:∀ x,x∈t.parts->(srt E x=1\/srt E x=2)->REv E x:=fun x hx h=>ih x hx (hl.parts hx) h
   have hzs:a1u a0J k t (t.parts.map (srt E))≠0:=by rw[<-hs];exact hz
   rw[hs] at h12
   clear ih hz hs hl
   obtain⟨op,n,m,ps⟩:=t
   dsimp only at hop hp hG hI hzs h12
   subst hop
   have hks:k=1\/k=2\/k=3\/k=4\/k=5\/k=6\/k=7\/k=8\/k=9\/k=10\/k=11\/k=12\/k=13\/k=14\/k=15\/k=16\/k=17\/k=18\/k=19\/k=20\/k=21\/k=22\/k=23\/k=24\/k=25\/k=26\/k=27\/k=28\/k=29\/k=30\/k=31\/k=32:=by omega
   clear h1 h2
   rcases hks with rfl | rfl | rfl | rfl | rfl | rfl | rfl | rfl | rfl | rfl | rfl | rfl | rfl | rfl | rfl | rfl | rfl | rfl | rfl | rfl | rfl | rfl | rfl | rfl | rfl | rfl | rfl | rfl | rfl | rfl | rfl | rfl
   ·obtain⟨e1,-⟩:=a0v (k:=1) (r:=1) (ts:=[]) rfl hzs
    obtain rfl:=b4M e1
    exact c0B E n m
   ·obtain⟨e1,-⟩:=a0v (k:=2) (r:=2) (ts:=[]) rfl hzs
    obtain rfl:=b4M e1
    exact c0A E n m
   ·obtain⟨e1,-⟩:=a0v (k:=3) (r:=1) (ts:=[]) rfl hzs
    obtain rfl:=b4M e1
    exact c0z E n m hE.rep
   ·obtain⟨e1,-⟩:=a0v (k:=4) (r:=1) (ts:=[]) rfl hzs
    obtain rfl:=b4M e1
    exact c0y E n m (by have h:(a0z n E.wins.length&&decide (m=0))=true:=hb;simp[a0z] at h;omega)
   ·obtain⟨e1,-⟩:=a0v (k:=5) (r:=2) (ts:=[]) rfl hzs
    obtain rfl:=b4M e1
    exact c0x E n m (by have h:(a0z n E.crons.length&&decide (m=0))=true:=hb;simp[a0z] at h;omega)
   ·have hz2:(if ps.map (srt E)=[] then m else 0)≠0:=hzs
    have e1:ps.map (srt E)=[]:=by
     apply Classical.byContradiction
     intro h
     exact hz2 (if_neg h)
    obtain rfl:=b4M e1
    exact c0w E n m
   ·obtain⟨g1,g2,g3,-⟩:=a1Q (show a0N 1 (ps.map (srt E))≠0 from hzs)
    obtain⟨x,rfl⟩:=c3D (by simpa using g1)
    exact a3V E 7 n m x (.inl rfl) (fun h=>by cases h) (fun h=>by cases h) (hI x (by simp) (b3R (hp x (by simp)) g2)) (hG x (by simp)).1
   ·obtain⟨e1,-⟩:=a0v (k:=8) (r:=1) (ts:=[1]) rfl hzs
    obtain⟨x,rfl,q0⟩:=a5w e1
    exact a3V E 8 n m x (by decide) (fun h=>by cases h) (fun h=>by cases h) (hI x (by simp) (.inl q0)) (hG x (by simp)).1
   ·obtain⟨e1,-⟩:=a0v (k:=9) (r:=2) (ts:=[2]) rfl hzs
    obtain⟨x,rfl,q0⟩:=a5w e1
    exact a3V E 9 n m x (by decide) (fun h=>by cases h) (fun _=>(hG x (by simp)).2 q0) (hI x (by simp) (.inr q0)) (hG x (by simp)).1
   ·obtain⟨e1,-⟩:=a0v (k:=10) (r:=1) (ts:=[1]) rfl hzs
    obtain⟨x,rfl,q0⟩:=a5w e1
    exact a3V E 10 n m x (by decide) (fun h=>by cases h) (fun h=>by cases h) (hI x (by simp) (.inl q0)) (hG x (by simp)).1
   ·obtain⟨e1,-⟩:=a0v (k:=11) (r:=1) (ts:=[1]) rfl hzs
    obtain⟨x,rfl,q0⟩:=a5w e1
    exact a3V E 11 n m x (by decide) (fun h=>by cases h) (fun h=>by cases h) (hI x (by simp) (.inl q0)) (hG x (by simp)).1
   ·obtain⟨e1,-⟩:=a0v (k:=12) (r:=1) (ts:=[1]) rfl hzs
    obtain⟨x,rfl,q0⟩:=a5w e1
    exact a3V E 12 n m x (by decide) (fun h=>by cases h) (fun h=>by cases h) (hI x (by simp) (.inl q0)) (hG x (by simp)).1
   ·obtain⟨e1,-⟩:=a0v (k:=13) (r:=1) (ts:=[1]) rfl hzs
    obtain⟨x,rfl,q0⟩:=a5w e1
    exact a3V E 13 n m x (by decide) (fun _=>by have h:(decide (0<=n)&&decide (1<=m))=true:=hb;simpa using h) (fun h=>by cases h) (hI x (by simp) (.inl q0)) (hG x (by simp)).1
   ·obtain⟨e1,-⟩:=a0v (k:=14) (r:=1) (ts:=[1,1]) rfl hzs
    obtain⟨x,y,rfl,q0,q1⟩:=a3f e1
    exact a1p 14 14 (by simp[OpK]) E n m x y (hI x (by simp) (.inl q0)) (hI y (by simp) (.inl q1)) (hG x (by simp)).1 (hG y (by simp)).1
   ·obtain⟨e1,-⟩:=a0v (k:=15) (r:=1) (ts:=[1,1]) rfl hzs
    obtain⟨x,y,rfl,q0,q1⟩:=a3f e1
    exact a1p 15 15 (by simp[OpK]) E n m x y (hI x (by simp) (.inl q0)) (hI y (by simp) (.inl q1)) (hG x (by simp)).1 (hG y (by simp)).1
   ·obtain⟨e1,-⟩:=a0v (k:=16) (r:=1) (ts:=[1,1]) rfl hzs
    obtain⟨x,y,rfl,q0,q1⟩:=a3f e1
    exact a1p 16 16 (by simp[OpK]) E n m x y (hI x (by simp) (.inl q0)) (hI y (by simp) (.inl q1)) (hG x (by simp)).1 (hG y (by simp)).1
   ·obtain⟨e1,-⟩:=a0v (k:=17) (r:=1) (ts:=[1,1]) rfl hzs
    obtain⟨x,y,rfl,q0,q1⟩:=a3f e1
    exact a1p 17 17 (by simp[OpK]) E n m x y (hI x (by simp) (.inl q0)) (hI y (by simp) (.inl q1)) (hG x (by simp)).1 (hG y (by simp)).1
   ·obtain⟨e1,-⟩:=a0v (k:=18) (r:=2) (ts:=[1,1]) rfl hzs
    obtain⟨x,y,rfl,q0,q1⟩:=a3f e1
    exact a1p 18 18 (by simp[OpK]) E n m x y (hI x (by simp) (.inl q0)) (hI y (by simp) (.inl q1)) (hG x (by simp)).1 (hG y (by simp)).1
   ·obtain⟨e1,-⟩:=a0v (k:=19) (r:=2) (ts:=[1,1]) rfl hzs
    obtain⟨x,y,rfl,q0,q1⟩:=a3f e1
    exact a1p 19 19 (by simp[OpK]) E n m x y (hI x (by simp) (.inl q0)) (hI y (by simp) (.inl q1)) (hG x (by simp)).1 (hG y (by simp)).1
   ·obtain⟨e1,-⟩:=a0v (k:=20) (r:=2) (ts:=[1,1]) rfl hzs
    obtain⟨x,y,rfl,q0,q1⟩:=a3f e1
    exact a1p 20 20 (by simp[OpK]) E n m x y (hI x (by simp) (.inl q0)) (hI y (by simp) (.inl q1)) (hG x (by simp)).1 (hG y (by simp)).1
   ·obtain⟨e1,-⟩:=a0v (k:=21) (r:=2) (ts:=[1,1]) rfl hzs
    obtain⟨x,y,rfl,q0,q1⟩:=a3f e1
    exact a1p 21 21 (by simp[OpK]) E n m x y (hI x (by simp) (.inl q0)) (hI y (by simp) (.inl q1)) (hG x (by simp)).1 (hG y (by simp)).1
   ·obtain⟨e1,-⟩:=a0v (k:=22) (r:=2) (ts:=[1,1]) rfl hzs
    obtain⟨x,y,rfl,q0,q1⟩:=a3f e1
    exact a1p 22 22 (by simp[OpK]) E n m x y (hI x (by simp) (.inl q0)) (hI y (by simp) (.inl q1)) (hG x (by simp)).1 (hG y (by simp)).1
   ·obtain⟨e1,-⟩:=a0v (k:=23) (r:=1) (ts:=[1,1]) rfl hzs
    obtain⟨x,y,rfl,q0,q1⟩:=a3f e1
    exact a1p 23 23 (by simp[OpK]) E n m x y (hI x (by simp) (.inl q0)) (hI y (by simp) (.inl q1)) (hG x (by simp)).1 (hG y (by simp)).1
   ·obtain⟨e1,-⟩:=a0v (k:=24) (r:=1) (ts:=[1,1]) rfl hzs
    obtain⟨x,y,rfl,q0,q1⟩:=a3f e1
    exact a1p 24 24 (by simp[OpK]) E n m x y (hI x (by simp) (.inl q0)) (hI y (by simp) (.inl q1)) (hG x (by simp)).1 (hG y (by simp)).1
   ·obtain⟨e1,-⟩:=a0v (k:=25) (r:=2) (ts:=[2,2]) rfl hzs
    obtain⟨x,y,rfl,q0,q1⟩:=a3f e1
    exact b7z E n m x y (hI x (by simp) (.inr q0)) (hI y (by simp) (.inr q1))
   ·obtain⟨e1,-⟩:=a0v (k:=26) (r:=2) (ts:=[2,2]) rfl hzs
    obtain⟨x,y,rfl,q0,q1⟩:=a3f e1
    exact b7y E n m x y (hI x (by simp) (.inr q0)) (hI y (by simp) (.inr q1))
   ·obtain⟨g1,g2,g3,-⟩:=a1Q (show a0N 2 (ps.map (srt E))≠0 from hzs)
    obtain⟨x,y,rfl⟩:=c4A (by simpa using g1)
    have g4:srt E y=srt E x:=g3 (srt E y) (by simp)
    exact b7x E n m x y (hI x (by simp) (b3R (hp x (by simp)) g2)) (hI y (by simp) (b3R (hp y (by simp)) (by rw[g4];exact g2)))
   ·obtain⟨a,e,ea⟩:=a6k (show a1t (ps.map (srt E))≠0 from hzs)
    have hL:ps.length=3:=by have:=congrArg List.length e;simpa using this
    obtain⟨x,y,z,rfl⟩:=c4z hL
    simp only[List.map_cons,List.map_nil,List.cons.injEq,and_true] at e
    obtain⟨e1,e2,e3⟩:=e
    have e4:a=1\/a=2:=by have h:a1t _=1\/a1t _=2:=h12;rw[ea] at h;exact h
    exact b7w E n m x y z (hI x (by simp) (.inr e1)) (hI y (by simp) (by rw[e2];exact e4)) (hI z (by simp) (by rw[e3];exact e4))
   ·obtain⟨-,e2⟩:=a0v (k:=29) (r:=3) (ts:=[]) rfl hzs
    exfalso
    rw[e2] at h12
    rcases h12 with h | h<;>cases h
   ·obtain⟨-,e2⟩:=a0v (k:=30) (r:=3) (ts:=[1]) rfl hzs
    exfalso
    rw[e2] at h12
    rcases h12 with h | h<;>cases h
   ·obtain⟨-,e2⟩:=a0v (k:=31) (r:=3) (ts:=[1]) rfl hzs
    exfalso
    rw[e2] at h12
    rcases h12 with h | h<;>cases h
   ·exfalso
    have e:a1u a0J 32 ⟨((32:Nat):Int),n,m,ps⟩ (ps.map (srt E))=a0J ⟨((32:Nat):Int),n,m,ps⟩ (ps.map (srt E)):=rfl
    rw[e] at h12
    unfold a0J at h12
    split at h12<;>rcases h12 with h | h<;>cases h
end Go.Proofs.YtbddbnjhmdbkbaaGreatDoor
