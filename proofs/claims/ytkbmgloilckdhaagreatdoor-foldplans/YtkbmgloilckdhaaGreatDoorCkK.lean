import Derived.Test.YtkbmgloilckdhaaGreatDoorMjB
import Derived.Test.YtkbmgloilckdhaaGreatDoorMhN
import Derived.Test.YtkbmgloilckdhaaGreatDoorMgP
import Derived.Deep.RegionLaw
namespace Go.Proofs.YtkbmgloilckdhaaGreatDoor
open Go.RowKit
theorem a5v {ops:Array Oper}{o:Oper}{a:Act}{w:World}{K:Act->World->Prop}{Q:Exit->Act->World->Prop}{E:Prop}(hgd:o.guard=none)(p:PlP)(v:PlV)(hs:a3c w p v)(hL:p.gs.length*96<=140737488355328)
 (he:(execOp a.eval o).run Tryz.prog w=.ok (.enter 12 #[plV p v]) w)
 (hK:∀ ad c w',CAt w' (.slice ad (a0S p).length c) (a0S p)->Below w.heap.size w w'->K (a.put o.dst (.slice ad (a0S p).length c)) w') :
 if Region.wanted o (yielded ops a.tmps)=true then Oper.wp Tryz.prog o a w K Q else E:=by
 have hwd:Region.wanted o (yielded ops a.tmps)=true:=by simp[Region.wanted,hgd]
 rw[if_pos hwd]
 unfold Oper.wp
 rw[he,Oper.upon_enter]
 refine(a6j p v w hs hL).mono fun e w' h=>?_
 obtain⟨u,rfl,h1,h2⟩:=h
 obtain⟨ad,c,rfl,-,-⟩:=h1.shape
 exact hK ad c w' h1 h2
set_option maxHeartbeats 4000000 in
set_option maxRecDepth 20000 in
theorem a8X (p:PlP)(u v:PlV)(w:World)(hu:a3c w p u)(hv:a3c w p v)(hL:p.gs.length*96<=140737488355328):
 Calls Tryz.prog 8 #[plV p u,plV p v] w fun e w'=>e=.returned (.bool true)/\Below w.heap.size w w':=by
 have HU:=a0a hu
 have HV:=a0a hv
 obtain⟨a1,c1,a2,c2,a3,c3,a4,c4,a5,c5,rfl,g1,g2,g3,g4⟩:=hu.shapes
 obtain⟨b1,d1,b2,d2,b3,d3,b4,d4,b5,d5,rfl,-,-,-,-⟩:=hv.shapes
 obtain⟨X0,X1,XB⟩:=a0e w 32 32 (plL p ⟨.slice a1 p.mets.length c1,.slice a2 p.wins.length c2,.slice a3 p.crons.length c3,.slice a4 p.gs.length c4,.slice a5 p.fin.parts.length c5⟩) (plL p ⟨.slice b1 p.mets.length d1,.slice b2 p.wins.length d2,.slice b3 p.crons.length d3,.slice b4 p.gs.length d4,.slice b5 p.fin.parts.length d5⟩)
 have HX0:=a0a X0
 have HX1:=a0a X1
 have B0:=a0a XB
 clear hu hv X0 X1 XB
 go_enter Tryz.func8,Tryz.ntmps8
 go_wp2_with fail
 generalize hw0:(w.alloc _).alloc _=w0 at *
 clear hw0
 have HUme:Hid (a0Y w (.slice a1 p.mets.length c1) p.mets.length 1 (fun i=>[.string (p.mets.getD i default)])):=HU.out.me
 have HVme:Hid (a0Y w (.slice b1 p.mets.length d1) p.mets.length 1 (fun i=>[.string (p.mets.getD i default)])):=HV.out.me
 have HUwi:Hid (a0Y w (.slice a2 p.wins.length c2) p.wins.length 4 (fun i=>wiL (p.wins.getD i wi0))):=HU.out.wi
 have HVwi:Hid (a0Y w (.slice b2 p.wins.length d2) p.wins.length 4 (fun i=>wiL (p.wins.getD i wi0))):=HV.out.wi
 have HUcr:Hid (a0Y w (.slice a3 p.crons.length c3) p.crons.length 5 (fun i=>crL (p.crons.getD i cr0))):=HU.out.cr
 have HVcr:Hid (a0Y w (.slice b3 p.crons.length d3) p.crons.length 5 (fun i=>crL (p.crons.getD i cr0))):=HV.out.cr
 have HCU:=a0a (fun W (hW:Below w.heap.size w W)=>HU.out.next hW)
 have HCV:=a0a (fun W (hW:Below w.heap.size w W)=>HV.out.next hW)
 obtain⟨N1,hN1⟩:∃ N,Hid (N=p.mets.length):=⟨_,rfl⟩
 obtain⟨N2,hN2⟩:∃ N,Hid (N=p.wins.length):=⟨_,rfl⟩
 obtain⟨N3,hN3⟩:∃ N,Hid (N=p.crons.length):=⟨_,rfl⟩
 rw[<-hN1.out] at HUme HVme HX0 HX1 HCU HCV g1 ⊢
 rw[<-hN2.out] at HUwi HVwi HX0 HX1 HCU HCV g2 ⊢
 rw[<-hN3.out] at HUcr HVcr HX0 HX1 HCU HCV g3 ⊢
 have HE:=a0a (fun c c' v v' W h h'=>a6G c c' v v' W true h h')
 clear HU HV
 go_loopw [5] (fun i wr=>∃ k:Nat,i=.int .i64 (k:Nat)/\k<=N1/\Hid (Below w0.heap.size w0 wr)) (fun i _=>match i with | .int _ p=>((N1:Int)-p).toNat | _=>0)
 case atStart=>exact⟨0,rfl,by omega,Below.refl _ _⟩
 case round=>
  obtain⟨k,rfl,hk,HB⟩:=hrel
  have HBw:=a0a (a0b B0.out HB.out B0.out.size)
  have X:=HX0.out.next HB.out
  have Y:=HX1.out.next HB.out
  have x0:=X.cell 0 _ rfl
  have y0:=Y.cell 0 _ rfl
  have xl:=X.lt
  have yl:=Y.lt
  by_cases hlt:k<N1
  ·have hlt':(k:Int)<(N1:Int):=by omega
   obtain⟨b,off,cap,hv,hle,-,hbl,hx⟩:=a0Y.open HUme.out (by omega)
   obtain⟨b',off',cap',hv',hle',-,hbl',hx'⟩:=a0Y.open HVme.out (by omega)
   simp only[Value.slice.injEq] at hv hv'
   obtain⟨rfl,-,rfl⟩:=hv
   obtain⟨rfl,-,rfl⟩:=hv'
   have lb:b<wr.heap.size:=Nat.lt_of_lt_of_le hbl HBw.out.size
   have lb':b'<wr.heap.size:=Nat.lt_of_lt_of_le hbl' HBw.out.size
   have z0:=a0d HBw.out (hx k hlt 0 _ rfl)
   have t0:=a0d HBw.out (hx' k hlt 0 _ rfl)
   clear hx hx'
   rw[Nat.mul_one,Nat.add_zero] at z0 t0
   go_wp2_with fail
   go_quiet (fail)
   go_wp2_with fail
   go_roundw
   case rel=>exact⟨k+1,by go_num,by omega,a0a (a0j HB.out _)⟩
   case measure=>simp;omega
  ·have hlt':¬(k:Int)<(N1:Int):=by omega
   clear y0 yl X Y hlt hk
   replace HX0:=a0a (HX0.out.next HB.out)
   replace HX1:=a0a (HX1.out.next HB.out)
   replace B0:=HBw
   clear HB HBw
   go_wp2_with fail
   generalize wr=wq1 at *
   clear x0 xl
   go_loopw [6] (fun i wr=>∃ k:Nat,i=.int .i64 (k:Nat)/\k<=N2/\Hid (Below wq1.heap.size wq1 wr)) (fun i _=>match i with | .int _ p=>((N2:Int)-p).toNat | _=>0)
   case atStart=>exact⟨0,rfl,by omega,Below.refl _ _⟩
   case round=>
    obtain⟨k,rfl,hk,HB⟩:=hrel
    have HBw:=a0a (a0b B0.out HB.out B0.out.size)
    have X:=HX0.out.next HB.out
    have Y:=HX1.out.next HB.out
    have x0:=X.cell 6 _ rfl
    have y0:=Y.cell 6 _ rfl
    have xl:=X.lt
    have yl:=Y.lt
    by_cases hlt:k<N2
    ·have hlt':(k:Int)<(N2:Int):=by omega
     obtain⟨b,off,cap,hv,hle,-,hbl,hx⟩:=a0Y.open HUwi.out (by omega)
     obtain⟨b',off',cap',hv',hle',-,hbl',hx'⟩:=a0Y.open HVwi.out (by omega)
     simp only[Value.slice.injEq] at hv hv'
     obtain⟨rfl,-,rfl⟩:=hv
     obtain⟨rfl,-,rfl⟩:=hv'
     have lb:b<wr.heap.size:=Nat.lt_of_lt_of_le hbl HBw.out.size
     have lb':b'<wr.heap.size:=Nat.lt_of_lt_of_le hbl' HBw.out.size
     have z0:=a0d HBw.out (hx k hlt 0 _ rfl)
     have t0:=a0d HBw.out (hx' k hlt 0 _ rfl)
     have z1:=a0d HBw.out (hx k hlt 1 _ rfl)
     have t1:=a0d HBw.out (hx' k hlt 1 _ rfl)
     have z2:=a0d HBw.out (hx k hlt 2 _ rfl)
     have t2:=a0d HBw.out (hx' k hlt 2 _ rfl)
     have z3:=a0d HBw.out (hx k hlt 3 _ rfl)
     have t3:=a0d HBw.out (hx' k hlt 3 _ rfl)
     clear hx hx'
     rw[Nat.add_zero] at z0 t0
     go_wp2_with fail
     go_quiet (fail)
     go_wp2_with fail
     go_roundw
     case rel=>exact⟨k+1,by go_num,by omega,a0a (a0j HB.out _)⟩
     case measure=>simp;omega
    ·have hlt':¬(k:Int)<(N2:Int):=by omega
     clear y0 yl X Y hlt hk
     replace HX0:=a0a (HX0.out.next HB.out)
     replace HX1:=a0a (HX1.out.next HB.out)
     replace B0:=HBw
     clear HB HBw
     go_wp2_with fail
     generalize wr=wq2 at *
     clear x0 xl
     go_loopw [7] (fun i wr=>∃ k:Nat,i=.int .i64 (k:Nat)/\k<=N3/\Hid (Below wq2.heap.size wq2 wr)) (fun i _=>match i with | .int _ p=>((N3:Int)-p).toNat | _=>0)
     case atStart=>exact⟨0,rfl,by omega,Below.refl _ _⟩
     case round=>
      obtain⟨k,rfl,hk,HB⟩:=hrel
      have HBw:=a0a (a0b B0.out HB.out B0.out.size)
      have X:=HX0.out.next HB.out
      have Y:=HX1.out.next HB.out
      have x0:=X.cell 7 _ rfl
      have y0:=Y.cell 7 _ rfl
      have xl:=X.lt
      have yl:=Y.lt
      by_cases hlt:k<N3
      ·have hlt':(k:Int)<(N3:Int):=by omega
       obtain⟨b,off,cap,hv,hle,-,hbl,hx⟩:=a0Y.open HUcr.out (by omega)
       obtain⟨b',off',cap',hv',hle',-,hbl',hx'⟩:=a0Y.open HVcr.out (by omega)
       simp only[Value.slice.injEq] at hv hv'
       obtain⟨rfl,-,rfl⟩:=hv
       obtain⟨rfl,-,rfl⟩:=hv'
       have lb:b<wr.heap.size:=Nat.lt_of_lt_of_le hbl HBw.out.size
       have lb':b'<wr.heap.size:=Nat.lt_of_lt_of_le hbl' HBw.out.size
       have z0:=a0d HBw.out (hx k hlt 0 _ rfl)
       have t0:=a0d HBw.out (hx' k hlt 0 _ rfl)
       have z1:=a0d HBw.out (hx k hlt 1 _ rfl)
       have t1:=a0d HBw.out (hx' k hlt 1 _ rfl)
       have z2:=a0d HBw.out (hx k hlt 2 _ rfl)
       have t2:=a0d HBw.out (hx' k hlt 2 _ rfl)
       have z3:=a0d HBw.out (hx k hlt 3 _ rfl)
       have t3:=a0d HBw.out (hx' k hlt 3 _ rfl)
       have z4:=a0d HBw.out (hx k hlt 4 _ rfl)
       have t4:=a0d HBw.out (hx' k hlt 4 _ rfl)
       clear hx hx'
       rw[Nat.add_zero] at z0 t0
       go_wp2_with fail
       go_quiet (fail)
       go_wp2_with fail
       go_roundw
       case rel=>exact⟨k+1,by go_num,by omega,a0a (a0j HB.out _)⟩
       case measure=>simp;omega
      ·have hlt':¬(k:Int)<(N3:Int):=by omega
       clear y0 yl X Y hlt hk
       replace HX0:=a0a (HX0.out.next HB.out)
       replace HX1:=a0a (HX1.out.next HB.out)
       replace B0:=HBw
       clear HB HBw
       go_wp2_with fail
       have x0:=HX0.out.cell 0 _ rfl
       have y0:=HX1.out.cell 0 _ rfl
       have x1:=HX0.out.cell 1 _ rfl
       have y1:=HX1.out.cell 1 _ rfl
       have x2:=HX0.out.cell 2 _ rfl
       have y2:=HX1.out.cell 2 _ rfl
       have x3:=HX0.out.cell 3 _ rfl
       have y3:=HX1.out.cell 3 _ rfl
       have x4:=HX0.out.cell 4 _ rfl
       have y4:=HX1.out.cell 4 _ rfl
       have x5:=HX0.out.cell 5 _ rfl
       have y5:=HX1.out.cell 5 _ rfl
       have x6:=HX0.out.cell 6 _ rfl
       have y6:=HX1.out.cell 6 _ rfl
       have x7:=HX0.out.cell 7 _ rfl
       have y7:=HX1.out.cell 7 _ rfl
       have x8:=HX0.out.cell 8 _ rfl
       have y8:=HX1.out.cell 8 _ rfl
       have x9:=HX0.out.cell 9 _ rfl
       have y9:=HX1.out.cell 9 _ rfl
       have x10:=HX0.out.cell 10 _ rfl
       have y10:=HX1.out.cell 10 _ rfl
       have x11:=HX0.out.cell 11 _ rfl
       have y11:=HX1.out.cell 11 _ rfl
       have x12:=HX0.out.cell 12 _ rfl
       have y12:=HX1.out.cell 12 _ rfl
       have x13:=HX0.out.cell 13 _ rfl
       have y13:=HX1.out.cell 13 _ rfl
       have xl:=HX0.out.lt
       have yl:=HX1.out.lt
       go_region_law (first
        | (refine a5v rfl p ⟨.slice b1 N1 d1,.slice b2 N2 d2,.slice b3 N3 d3,.slice b4 p.gs.length d4,.slice b5 p.fin.parts.length d5⟩ (HCV.out _ B60.out) hL (by first | rfl | go_simp) ?_;intro a61 c61 w61 s61 b61;have B61:=kb B60 b61;have S61:=a0a s61;have S62:=a0a (S60.out.next b61);clear s61 b61)
        | (refine a5v rfl p ⟨.slice a1 N1 c1,.slice a2 N2 c2,.slice a3 N3 c3,.slice a4 p.gs.length c4,.slice a5 p.fin.parts.length c5⟩ (HCU.out _ (a0b B0.out (Below.refl _ _).drew B0.out.size)) hL (by first | rfl | go_simp) ?_;intro a60 c60 w60 s60 b60;have K60:=a0a (a0b (Below.refl wr.heap.size wr).drew b60 (Below.refl wr.heap.size wr).drew.size);have B60:=a0a (a0b B0.out K60.out B0.out.size);have S60:=a0a s60;have Y60:=HX1.out.next K60.out;have d0_:=Y60.cell 0 _ rfl;have d1_:=Y60.cell 1 _ rfl;have d2_:=Y60.cell 2 _ rfl;have d3_:=Y60.cell 3 _ rfl;have d4_:=Y60.cell 4 _ rfl;have d5_:=Y60.cell 5 _ rfl;have d6_:=Y60.cell 6 _ rfl;have d7_:=Y60.cell 7 _ rfl;have d8_:=Y60.cell 8 _ rfl;have d9_:=Y60.cell 9 _ rfl;have d10_:=Y60.cell 10 _ rfl;have d11_:=Y60.cell 11 _ rfl;have d12_:=Y60.cell 12 _ rfl;have d13_:=Y60.cell 13 _ rfl;have dl_:=Y60.lt;clear s60 b60))
       all_goals go_wp2_with fail
       all_goals (
        clear HX0 HX1 HCU HCV B60 S60 K60
        obtain⟨M,hM⟩:∃ M,Hid (M=(a0S p).length):=⟨_,rfl⟩
        rw[<-hM.out] at S61 S62 ⊢
        generalize a0S p=C at *
        have hMl:=S61.out.shape
        go_loopw [10] (fun i wr=>∃ k:Nat,i=.int .i64 (k:Nat)/\k<=M/\Hid (Below w61.heap.size w61 wr)) (fun i _=>match i with | .int _ p=>((M:Int)-p).toNat | _=>0)
        case atStart=>exact⟨0,rfl,by omega,Below.refl _ _⟩
        case round=>
         obtain⟨q,rfl,hq,HB⟩:=hrel
         by_cases hlt:q<M
         ·have hlt':(q:Int)<(M:Int):=by omega
          have h1:q<C.length:=by rw[<-hM.out];exact hlt
          obtain⟨b,off,cap,hv,-,-,hbl,hx⟩:=S62.out.open (by omega)
          simp only[Value.slice.injEq] at hv
          obtain⟨rfl,-,rfl⟩:=hv
          obtain⟨b',off',cap',hv',-,-,hbl',hx'⟩:=S61.out.open (by omega)
          simp only[Value.slice.injEq] at hv'
          obtain⟨rfl,-,rfl⟩:=hv'
          obtain⟨u,h6,hu⟩:=hx q h1
          obtain⟨u',h6',hu'⟩:=hx' q h1
          obtain⟨e0,e1,e2,e3⟩:=h6.keep (w':=wr) (fun j=>HB.out.cell (p:=⟨b,j,none⟩) hbl)
          obtain⟨f0,f1,f2,f3⟩:=h6'.keep (w':=wr) (fun j=>HB.out.cell (p:=⟨b',j,none⟩) hbl')
          have lb:b<wr.heap.size:=Nat.lt_of_lt_of_le hbl HB.out.size
          have lb':b'<wr.heap.size:=Nat.lt_of_lt_of_le hbl' HB.out.size
          have HC:Hid (∀ wy,Below w61.heap.size w61 wy->Calls Tryz.prog 11 #[coV C[q] u,coV C[q] u'] wy fun e w'=>e=.returned (.bool true)/\Below wy.heap.size wy w'):=fun wy hb=>HE.out _ _ u u' _ (by simp) (hu.next hb) (hu'.next hb)
          obtain⟨z1,k1,rfl,-,-⟩:=hu.parts.shape
          obtain⟨z2,k2,rfl,-,-⟩:=hu'.parts.shape
          clear h6 h6' hu hu' hx hx'
          generalize C[q]=x at *
          simp only[coV] at HC
          go_wp2_with fail
          obtain⟨f,hf1,hf2⟩:=a5q wr
          have HF1:=a0a hf1
          have HF2:=a0a hf2
          have e0':=fun n=>a0d (hf1 n) e0
          have e1':=fun n=>a0d (hf1 n) e1
          have e2':=fun n=>a0d (hf1 n) e2
          have e3':=fun n=>a0d (hf1 n) e3
          have f0':=fun n=>a0d (hf1 n) f0
          have f1':=fun n=>a0d (hf1 n) f1
          have f2':=fun n=>a0d (hf1 n) f2
          have f3':=fun n=>a0d (hf1 n) f3
          clear hf1 hf2 e0 e1 e2 e3 f0 f1 f2 f3
          refine a0n f (by kernel_rfl) (by kernel_rfl) (HF2.out _ (Below.refl _ _).drew) ?_
          repeat (go_big_quiet_step (first|(go_at_call 11;with_reducible refine Calls.mono (HC.out _ (a0b HB.out (HF1.out _) HB.out.size)) ?_;rintro e W1 ⟨rfl,b5⟩;exact⟨rfl,HF2.out _ (a0b (HF1.out _) b5 (HF1.out _).size)⟩)))
          refine wpQuiet_nil ?_
          intro w6 hw6
          obtain⟨n6,rfl⟩:=hw6
          have B6:=a0a (a0b HB.out (HF1.out n6) HB.out.size)
          clear e0' e1' e2' e3' f0' f1' f2' f3'
          generalize f n6=w6 at *
          go_wp2_with fail
          go_roundw
          case rel=>exact⟨q+1,by go_num,by omega,B6⟩
          case measure=>simp;omega
         ·have hlt':¬(q:Int)<(M:Int):=by omega
          go_wp2_with fail
          go_ret
          exact⟨rfl,a0b B61.out HB.out B61.out.size⟩)
end Go.Proofs.YtkbmgloilckdhaaGreatDoor
