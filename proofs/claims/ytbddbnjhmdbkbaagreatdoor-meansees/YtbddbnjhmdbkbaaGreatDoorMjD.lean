import Derived.Test.YtbddbnjhmdbkbaaGreatDoorMaC
import Derived.Test.YtbddbnjhmdbkbaaGreatDoorMgG
import Derived.Test.YtbddbnjhmdbkbaaGreatDoorMgP
import Derived.Test.YtbddbnjhmdbkbaaGreatDoorMhV
import Derived.Test.YtbddbnjhmdbkbaaGreatDoorMjC
import Derived.Test.YtbddbnjhmdbkbaaGreatDoorMjA
namespace Go.Proofs.YtbddbnjhmdbkbaaGreatDoor
open Go.RowKit
theorem a4J.get {w:World}{a:Option Addr}{L c:Nat}{l:List (Int×Int)}(h:a4J w (.slice a L c) l){i:Nat}(hi:i<l.length):∃ b off,a=some ⟨b,off,none⟩/\b<w.heap.size/\w.cell? ⟨b,off+i*2,none⟩=some (.int .i64 (l.getD i (0,0)).1)/\w.cell? ⟨b,off+i*2+1,none⟩=some (.int .i64 (l.getD i (0,0)).2):=by
 obtain⟨ad',cap',e,hx⟩:=h
 simp only[Value.slice.injEq] at e
 obtain⟨rfl,-,rfl⟩:=e
 rcases hx with h | ⟨b,off,rfl,hbl,hc⟩
 ·rw[h] at hi;simp at hi
 ·exact⟨b,off,rfl,hbl,hc i hi⟩
theorem a3j.get {w:World}{a:Option Addr}{L c:Nat}{l:List Bool}(h:a3j w (.slice a L c) l){i:Nat}(hi:i<l.length):∃ b off,a=some ⟨b,off,none⟩/\b<w.heap.size/\w.cell? ⟨b,off+i,none⟩=some (.bool (l.getD i false)):=by
 obtain⟨ad',cap',e,hx⟩:=h
 simp only[Value.slice.injEq] at e
 obtain⟨rfl,-,rfl⟩:=e
 rcases hx with h | ⟨b,off,rfl,hbl,hc⟩
 ·rw[h] at hi;simp at hi
 ·exact⟨b,off,rfl,hbl,hc i hi⟩
set_option maxHeartbeats 1000000 in
set_option maxRecDepth 20000 in
theorem b2Z (E:a0z)(u1 u2 v1 v2:Value)(w:World)(hu:a3v w E u1 u2)(hv:a3v w E v1 v2):Calls Tryz.prog 13 #[c2j E u1 u2,c2j E v1 v2] w fun e w'=>e=.returned (.bool true)/\Below w.heap.size w w':=by
 have HU:=a0a hu
 have HV:=a0a hv
 have hwl:=hu.ok.wl
 have hcl:=hu.ok.cl
 obtain⟨a1,c1,a2,c2,rfl,rfl⟩:=hu.shape
 obtain⟨b1,d1,b2,d2,rfl,rfl⟩:=hv.shape
 obtain⟨L1,hL1⟩:∃ L,Hid (L=E.wins.length):=⟨_,rfl⟩
 obtain⟨L2,hL2⟩:∃ L,Hid (L=E.crons.length):=⟨_,rfl⟩
 rw[<-hL1.out] at hwl
 rw[<-hL2.out] at hcl
 obtain⟨Y0,Y1,B0⟩:=a0n w 40 40 [.int .i64 E.rep,.slice a1 L1 c1,.slice a2 L2 c2] [.int .i64 E.rep,.slice b1 L1 d1,.slice b2 L2 d2]
 have x1:=Y0.cell 1 _ rfl
 have x2:=Y0.cell 2 _ rfl
 have xl:=Y0.lt
 have y1:=Y1.cell 1 _ rfl
 have y2:=Y1.cell 2 _ rfl
 have yl:=Y1.lt
 have HB0:=a0a B0
 rw[<-hL1.out,<-hL2.out]
 rw[<-hL1.out,<-hL2.out] at HU HV
 clear hu hv Y0 Y1 B0
 go_enter Tryz.func13,Tryz.ntmps13
 go_wp2_with fail
 generalize hW1:(w.alloc _).alloc _=w1 at *
 clear hW1
 go_loopw [5] (fun i wr=>∃ k:Nat,i=.int .i64 (k:Nat)/\k<=L1/\Hid (Below w1.heap.size w1 wr)) (fun i _=>match i with | .int _ p=>((L1:Int)-p).toNat | _=>0)
 case atStart=>exact⟨0,rfl,by omega,a0a (ZD _ _)⟩
 case round=>
  obtain⟨k,rfl,hk,HWr⟩:=hrel
  have BW:=a0a (a0b HB0.out HWr.out HB0.out.size)
  have x1w:=(HWr.out.cell (p:=⟨w.heap.size,1,none⟩) xl).trans x1
  have x2w:=(HWr.out.cell (p:=⟨w.heap.size,2,none⟩) xl).trans x2
  have xlw:=ZA xl HWr.out.size
  have y1w:=(HWr.out.cell (p:=⟨w.heap.size+1,1,none⟩) yl).trans y1
  have y2w:=(HWr.out.cell (p:=⟨w.heap.size+1,2,none⟩) yl).trans y2
  have ylw:=ZA yl HWr.out.size
  by_cases hlt:k<L1
  ·have hlt':(k:Int)<(L1:Int):=by omega
   obtain⟨b,off,rfl,hbl,q0,q1⟩:=HU.out.wins.get (i:=k) (by rw[<-hL1.out];exact hlt)
   obtain⟨b',off',rfl,hbl',r0,r1⟩:=HV.out.wins.get (i:=k) (by rw[<-hL1.out];exact hlt)
   replace q0:=a0c BW.out q0
   replace q1:=a0c BW.out q1
   replace r0:=a0c BW.out r0
   replace r1:=a0c BW.out r1
   have lb:=ZA hbl BW.out.size
   have lb':=ZA hbl' BW.out.size
   generalize E.wins.getD k (0,0)=x at *
   clear HU HV
   go_wp2_with fail
   go_quiet (fail)
   go_wp2_with fail
   go_roundw
   case rel=>exact⟨k+1,by go_num,by omega,by first | exact HWr | exact a0a HWr.out.drew | exact a0a (a0j HWr.out _)⟩
   case measure=>simp;omega
  ·have hlt':¬(k:Int)<(L1:Int):=by omega
   obtain rfl:k=L1:=by omega
   go_wp2_with fail
   obtain⟨W1,rfl⟩:∃ W1,W1=wr:=⟨_,rfl⟩
   go_loopw [6] (fun i wz=>∃ k:Nat,i=.int .i64 (k:Nat)/\k<=L2/\Hid (Below W1.heap.size W1 wz)) (fun i _=>match i with | .int _ p=>((L2:Int)-p).toNat | _=>0)
   case atStart=>exact⟨0,rfl,by omega,a0a (ZD _ _)⟩
   case round=>
    obtain⟨j,rfl,hj,HWz⟩:=hrel
    have BZ:=a0a (a0b BW.out HWz.out BW.out.size)
    have x2z:=(HWz.out.cell (p:=⟨w.heap.size,2,none⟩) xlw).trans x2w
    have xlz:=ZA xlw HWz.out.size
    have y2z:=(HWz.out.cell (p:=⟨w.heap.size+1,2,none⟩) ylw).trans y2w
    have ylz:=ZA ylw HWz.out.size
    by_cases hlt2:j<L2
    ·have hlt2':(j:Int)<(L2:Int):=by omega
     obtain⟨b,off,rfl,hbl,q0⟩:=HU.out.crons.get (i:=j) (by rw[<-hL2.out];exact hlt2)
     obtain⟨b',off',rfl,hbl',r0⟩:=HV.out.crons.get (i:=j) (by rw[<-hL2.out];exact hlt2)
     replace q0:=a0c BZ.out q0
     replace r0:=a0c BZ.out r0
     have lb:=ZA hbl BZ.out.size
     have lb':=ZA hbl' BZ.out.size
     generalize E.crons.getD j false=x at *
     have hxx:(x != x)=false:=by simp
     clear HU HV
     go_wp2_with fail
     go_quiet (fail)
     go_wp2_with fail
     go_roundw
     case rel=>exact⟨j+1,by go_num,by omega,by first | exact HWz | exact a0a HWz.out.drew | exact a0a (a0j HWz.out _)⟩
     case measure=>simp;omega
    ·have hlt2':¬(j:Int)<(L2:Int):=by omega
     go_wp2_with fail
     go_ret
     exact⟨rfl,BZ.out⟩
open Classical in
theorem b6q (t:Int):∃ nm:Cr->Bool,∀ c,nm c=true↔a5O c t:=⟨fun c=>decide (a5O c t),fun c=>by simp⟩
theorem b9p (t:Int)(ht:a1n t)(nm:Cr->Bool)(hnm:∀ c,nm c=true↔a5O c t)(p:PlP)(hf:∀ x,x∈p.crons->x.Fits)(w:World)(hL:a4P w):∀ c,c∈p.crons->∀ W,Below w.heap.size w W->Calls Tryz.prog 52 #[.agg (crL c).toArray,.int .i64 t] W fun e w'=>e=.returned (.bool (nm c))/\Below W.heap.size W w':=fun c hc W hW=>
 b5h c (hf c hc) t ht.1 ht.2 (nm c) (hnm c) W (hL.later hW)
end Go.Proofs.YtbddbnjhmdbkbaaGreatDoor
