import Derived.Test.YtbddbnjhmdbkbaaGreatDoorCbCeB
namespace Go.Proofs.YtbddbnjhmdbkbaaGreatDoor
open Go.RowKit
set_option maxHeartbeats 2000000 in
set_option maxRecDepth 20000 in
theorem a8X (p:PlP)(v:PlV)(w:World)(hs:a3a w p v)(hL:p.gs.length*96<=140737488355328):Calls Tryz.prog 17 #[plV p v] w fun e w'=>e=.returned (.bool (a9W p))/\Below w.heap.size w w':=by
 have HC:=a0a (fun W (hW:Below w.heap.size w W)=>a7o p v W (hs.next hW) hL)
 obtain⟨a1,c1,a2,c2,a3,c3,a4,c4,a5,c5,rfl,g1,g2,g3,g4⟩:=hs.shapes
 have B0:=a0a ((ZE w.heap.size w).alloc (ZC _) (.cells (plL p ⟨.slice a1 p.mets.length c1,.slice a2 p.wins.length c2,.slice a3 p.crons.length c3,.slice a4 p.gs.length c4,.slice a5 p.fin.parts.length c5⟩).toArray 32))
 have HQ:Hid (a9W p=decide (a4n (a3o p) 0<=8192)):=a0a rfl
 generalize a9W p=Q at *
 generalize a3o p=C at *
 clear hs g1 g2 g3 g4 hL
 go_enter Tryz.func17,Tryz.ntmps17
 go_wp2_with fail
 refine ZF (HC.out _ B0.out) ?_
 rintro e w1 ⟨u,rfl,hu,b1⟩
 have B1:=kb B0 b1
 have HU:=a0a hu
 obtain⟨ad,cap,rfl,hc1,hc2⟩:=hu.shape
 obtain⟨N,hN⟩:∃ N,Hid (N=C.length):=⟨_,rfl⟩
 rw[<-hN.out] at HU hc1 ⊢
 clear hu b1 HC
 go_wp2_with fail
 go_loopw [4,5] (fun n i wr=>∃ (k m:Nat),i=.int .i64 (k:Nat)/\n=.int .i64 (m:Nat)/\k<=N/\m<=8193/\Hid (a4n (C.drop k) m=a4n C 0)/\Hid (Below w1.heap.size w1 wr)) (fun _ i _=>match i with | .int _ p=>((N:Int)-p).toNat | _=>0)
 case atStart=>exact⟨0,0,rfl,rfl,by omega,by omega,a0a rfl,ZE _ _⟩
 case round=>
  obtain⟨k,m,rfl,rfl,hk,hm,HFw,HB⟩:=hrel
  have BW:=a0a (a0c B1.out HB.out B1.out.size)
  by_cases hlt:k<N
  ·have hlt':(k:Int)<(N:Int):=by omega
   by_cases h16:m<=4096
   ·have h16':(m:Int)<=4096:=by omega
    have hl1:k<C.length:=by rw[<-hN.out];exact hlt
    obtain⟨b,off,cap',hv,-,-,hbl,hx⟩:=HU.out.open (by omega)
    simp only[Value.slice.injEq] at hv
    obtain⟨rfl,-,rfl⟩:=hv
    obtain⟨u,h6,hu⟩:=hx k hl1
    have y0:=a0j HB.out h6.c0
    have y1:=a0j HB.out h6.c1
    have y2:=a0j HB.out h6.c2
    have y3:=a0j HB.out h6.c3
    have lbr:b<wr.heap.size:=ZA hbl HB.out.size
    have HCl:=a0a (a6L C[k] u wr (hu.next HB.out))
    unfold a5N at HCl
    have hmn:min (a0b C[k]) 4097<=4097:=Nat.min_le_right _ _
    have HGo:Hid (a4n (C.drop (k+1)) (m+min (a0b C[k]) 4097)=a4n C 0):=a0a (by rw[<-a8W hl1 h16];exact HFw.out)
    generalize min (a0b C[k]) 4097=M at *
    obtain⟨au,cu,rfl,-,-⟩:=hu.parts.shape
    clear hx h6 hu
    generalize C[k]=x at *
    clear hl1
    obtain⟨xk,xn,xm,xps⟩:=x
    dsimp only at *
    generalize xps.length=L at *
    go_wp2_with fail
    refine ZF HCl.out ?_
    rintro e w2 ⟨rfl,b2⟩
    have B2:=kb HB b2
    clear b2 HCl y0 y1 y2 y3
    obtain⟨S,hS⟩:∃ S,Hid (S=m+M):=⟨_,a0a rfl⟩
    have i3:(m:Int)+(M:Int)=(S:Int):=by have:=hS.out;omega
    have i4:(S:Int)<=8193:=by have:=hS.out;omega
    have hS2:Hid (S<=8193):=a0a (by have:=hS.out;omega)
    have HGo2:Hid (a4n (C.drop (k+1)) S=a4n C 0):=a0a (by rw[hS.out];exact HGo.out)
    clear hmn h16 hS hm HGo
    go_wp2_with fail
    go_roundw
    case rel=>exact⟨k+1,S,by go_num,rfl,by omega,hS2.out,HGo2.out,B2.out⟩
    case measure=>simp;omega
   ·have h16':¬(m:Int)<=4096:=by omega
    have hQ1:Hid (Q=decide ((m:Int)<=8192)):=a0a (by rw[HQ.out,<-HFw.out,a7K h16];exact decide_eq_decide.2 ⟨fun h=>by omega,fun h=>by omega⟩)
    go_wp2_with fail
    all_goals go_ret
    all_goals exact⟨by rw[hQ1.out];rfl,BW.out⟩
  ·have hlt':¬(k:Int)<(N:Int):=by omega
   have hQ1:Hid (Q=decide ((m:Int)<=8192)):=a0a (by
    rw[HQ.out,<-HFw.out,List.drop_eq_nil_of_le (by rw[<-hN.out];omega)]
    exact decide_eq_decide.2 ⟨fun h=>by unfold a4n at h;omega,fun h=>by unfold a4n;omega⟩)
   go_wp2_with fail
   all_goals go_ret
   all_goals exact⟨by rw[hQ1.out];rfl,BW.out⟩
end Go.Proofs.YtbddbnjhmdbkbaaGreatDoor
