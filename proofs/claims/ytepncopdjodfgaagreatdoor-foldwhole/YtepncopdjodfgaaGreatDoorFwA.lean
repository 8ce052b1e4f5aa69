import Derived.Test.YtepncopdjodfgaaGreatDoorFwP
import Derived.Test.YtepncopdjodfgaaGreatDoorMfQ
import Derived.Test.YtepncopdjodfgaaGreatDoorFpA
import Derived.Deep.RegionLaw
namespace Go.Proofs.YtepncopdjodfgaaGreatDoor
open Go.RowKit
theorem fo_four (w:World)(t0 t1 t2 t3:TypeId)(x0 x1 x2 x3:List Value):
 Box ((((w.alloc (.cells x0.toArray t0)).alloc (.cells x1.toArray t1)).alloc (.cells x2.toArray t2)).alloc (.cells x3.toArray t3)) w.heap.size x0/\Box ((((w.alloc (.cells x0.toArray t0)).alloc (.cells x1.toArray t1)).alloc (.cells x2.toArray t2)).alloc (.cells x3.toArray t3)) (w.heap.size+1) x1/\Box ((((w.alloc (.cells x0.toArray t0)).alloc (.cells x1.toArray t1)).alloc (.cells x2.toArray t2)).alloc (.cells x3.toArray t3)) (w.heap.size+1+1) x2/\Box ((((w.alloc (.cells x0.toArray t0)).alloc (.cells x1.toArray t1)).alloc (.cells x2.toArray t2)).alloc (.cells x3.toArray t3)) (w.heap.size+1+1+1) x3/\Below w.heap.size w ((((w.alloc (.cells x0.toArray t0)).alloc (.cells x1.toArray t1)).alloc (.cells x2.toArray t2)).alloc (.cells x3.toArray t3)):=by
 obtain⟨Y0,Y1,Y2,B⟩:=three_boxes w t0 t1 t2 x0 x1 x2
 have b:=(Below.refl (((w.alloc (.cells x0.toArray t0)).alloc (.cells x1.toArray t1)).alloc (.cells x2.toArray t2)).heap.size _).alloc (Nat.le_refl _) (.cells x3.toArray t3)
 have n:=Box.new (((w.alloc (.cells x0.toArray t0)).alloc (.cells x1.toArray t1)).alloc (.cells x2.toArray t2)) x3 t3
 exact⟨Y0.next b,Y1.next b,Y2.next b,by simpa using n,cbelow_on B b B.size⟩
def WhC (E:EnvP)(t:Co):Prop:=∀ (v v1 v2:Value) (w:World),CSits w t v->EnvAt w E v1 v2->Calls Tryz.prog 36 #[coV t v,envV E v1 v2] w fun e w'=>∃ u,e=.returned (coV (wholeF E t) u)/\CSP (fun b=>w.heap.size<=b) w' (wholeF E t) u/\Below w.heap.size w w'
set_option maxHeartbeats 1000000 in
set_option maxRecDepth 20000 in
theorem whole_win (E:EnvP)(t:Co)(hop:t.op=4)(hn:0<=t.n/\t.n<E.wins.length):WhC E t:=by
 intro v v1 v2 w hs he
 obtain⟨a1,c1,a2,c2,rfl,rfl⟩:=he.shape
 have hwl:=he.ok.wl
 obtain⟨ad,cap,rfl,-,-⟩:=hs.parts.shape
 have HW:=he.wins
 have hF:=he.ok.wins t.n.toNat
 obtain⟨N,hN⟩:∃ N:Nat,t.n=(N:Int):=⟨t.n.toNat,by omega⟩
 obtain⟨D,hD⟩:∃ D,Hid (D=wholeF E t):=⟨_,rfl⟩
 rw[<-hD.out]
 rw[wholeF_eq,if_pos hop] at hD
 obtain⟨ad',cap',e,hx⟩:=HW
 simp only[Value.slice.injEq] at e
 obtain⟨rfl,-,rfl⟩:=e
 have hb:∃ b off,a1=some ⟨b,off,none⟩/\b<w.heap.size/\∀ i,i<E.wins.length->w.cell? ⟨b,off+i*2,none⟩=some (.int .i64 (E.wins.getD i (0,0)).1)/\w.cell? ⟨b,off+i*2+1,none⟩=some (.int .i64 (E.wins.getD i (0,0)).2):=by
  rcases hx with h | h
  ·rw[h] at hn;simp at hn;omega
  ·exact h
 obtain⟨b,off,rfl,hbl,hc⟩:=hb
 obtain⟨r0,r1⟩:=hc N (by omega)
 rw[hN] at hD hF
 rw[Int.toNat_natCast] at hD hF
 generalize E.wins.getD N (0,0)=x at *
 obtain⟨xr,xn⟩:=x
 dsimp only at hD hF r0 r1
 clear hs he hx hc
 have lb1:b<w.heap.size+1:=by omega
 have lb2:b<w.heap.size+1+1:=by omega
 have lb3:b<w.heap.size+1+1+1:=by omega
 have lb4:b<w.heap.size+1+1+1+1:=by omega
 have hA5:Hid (∀ o0 o1 o2 o3 o4,Below w.heap.size w (((((w.alloc o0).alloc o1).alloc o2).alloc o3).alloc o4)):=fun o0 o1 o2 o3 o4=>(((((Below.refl _ _).alloc (Nat.le_refl _) _).alloc (by simp) _).alloc (by simp;omega) _).alloc (by simp;omega) _).alloc (by simp;omega) _
 have hA4:Hid (∀ o0 o1 o2 o3,Below w.heap.size w ((((w.alloc o0).alloc o1).alloc o2).alloc o3)):=fun o0 o1 o2 o3=>((((Below.refl _ _).alloc (Nat.le_refl _) _).alloc (by simp) _).alloc (by simp;omega) _).alloc (by simp;omega) _
 by_cases hx0:xr=0
 case neg=>
  have hD2:Hid (D=⟨6,xr,1,[]⟩):=hD.out.trans (if_pos hx0)
  have hxb:(xr != 0)=true:=by simpa using hx0
  clear hD
  go_enter Tryz.func36,Tryz.ntmps36
  go_wp2_with fail
  refine bodyPost_ret (v:=coV ⟨6,xr,1,[]⟩ (.slice none 0 0)) (by simp[results,Tryz.results36,go_sem, *]) rfl ?_
  exact⟨_,by rw[hD2.out],by rw[hD2.out];exact CSP.leaf _ ⟨aw_64 _ rfl,hF.1,aw_64 _ rfl⟩,hA5.out _ _ _ _ _⟩
 subst hx0
 have hD2:Hid (D=⟨1,xn,0,[]⟩):=hD.out.trans (if_neg (by simp))
 have HN:=chid num18_c
 clear hD
 obtain⟨-,-,Y2,-,-⟩:=fo_four w 30 40 30 30 [.int .i64 4,.int .i64 N,.int .i64 t.m,.slice ad t.parts.length cap] [.int .i64 E.rep,.slice (some ⟨b,off,none⟩) E.wins.length c1,.slice a2 E.crons.length c2] [.int .i64 0,.int .i64 0,.int .i64 0,.slice none 0 0] [.int .i64 4,.int .i64 N,.int .i64 t.m,.slice none 0 0]
 have HR:=chid (fun o=>Y2.next ((Below.refl _ _).alloc (Nat.le_refl _) o))
 clear Y2
 go_enter Tryz.func36,Tryz.ntmps36
 go_wp2_with fail
 refine Calls.mono (HN.out _ _) ?_
 rintro e w5 ⟨rfl,b5⟩
 have B5:=chid (cbelow_on (hA5.out _ _ _ _ _) b5 (hA5.out _ _ _ _ _).size)
 have YR:=(HR.out _).next b5
 clear b5 HR r0 r1
 have y0:=YR.cell 0 _ rfl
 have y1:=YR.cell 1 _ rfl
 have y2:=YR.cell 2 _ rfl
 have y3:=YR.cell 3 _ rfl
 have g0:=YR.free 0 (by simp)
 have g1:=YR.free 1 (by simp)
 have g2:=YR.free 2 (by simp)
 have g3:=YR.free 3 (by simp)
 have yl:=YR.lt
 clear YR
 go_wp2_with fail
 refine bodyPost_ret (v:=coV ⟨1,xn,0,[]⟩ (.slice none 0 0)) (by simp[results,Tryz.results36,go_sem, *]) rfl ?_
 exact⟨_,by rw[hD2.out],by rw[hD2.out];exact CSP.leaf _ ⟨aw_64 _ rfl,hF.2,aw_64 _ rfl⟩,((((B5.out.setCell (p:=⟨w.heap.size+1+1,0,none⟩) (by simp;omega) _).setCell (p:=⟨w.heap.size+1+1,1,none⟩) (by simp;omega) _).setCell (p:=⟨w.heap.size+1+1,2,none⟩) (by simp;omega) _).setCell (p:=⟨w.heap.size+1+1,3,none⟩) (by simp;omega) _)⟩
set_option maxHeartbeats 1000000 in
set_option maxRecDepth 20000 in
theorem whole_cron (E:EnvP)(t:Co)(hop:t.op=5)(hn:0<=t.n/\t.n<E.crons.length):WhC E t:=by
 intro v v1 v2 w hs he
 obtain⟨a1,c1,a2,c2,rfl,rfl⟩:=he.shape
 have hwl:=he.ok.cl
 obtain⟨ad,cap,rfl,-,-⟩:=hs.parts.shape
 have HW:=he.crons
 obtain⟨N,hN⟩:∃ N:Nat,t.n=(N:Int):=⟨t.n.toNat,by omega⟩
 obtain⟨D,hD⟩:∃ D,Hid (D=wholeF E t):=⟨_,rfl⟩
 rw[<-hD.out]
 rw[wholeF_eq,if_neg (by omega),if_pos hop] at hD
 obtain⟨ad',cap',e,hx⟩:=HW
 simp only[Value.slice.injEq] at e
 obtain⟨rfl,-,rfl⟩:=e
 have hb:∃ b off,a2=some ⟨b,off,none⟩/\b<w.heap.size/\∀ i,i<E.crons.length->w.cell? ⟨b,off+i,none⟩=some (.bool (E.crons.getD i false)):=by
  rcases hx with h | h
  ·rw[h] at hn;simp at hn;omega
  ·exact h
 obtain⟨b,off,rfl,hbl,hc⟩:=hb
 have r0:=hc N (by omega)
 rw[hN,Int.toNat_natCast] at hD
 generalize E.crons.getD N false=x at *
 clear hs he hx hc
 have lb1:b<w.heap.size+1:=by omega
 have lb2:b<w.heap.size+1+1:=by omega
 have lb3:b<w.heap.size+1+1+1:=by omega
 have lb4:b<w.heap.size+1+1+1+1:=by omega
 have hA5:Hid (∀ o0 o1 o2 o3 o4,Below w.heap.size w (((((w.alloc o0).alloc o1).alloc o2).alloc o3).alloc o4)):=fun o0 o1 o2 o3 o4=>(((((Below.refl _ _).alloc (Nat.le_refl _) _).alloc (by simp) _).alloc (by simp;omega) _).alloc (by simp;omega) _).alloc (by simp;omega) _
 have hA4:Hid (∀ o0 o1 o2 o3,Below w.heap.size w ((((w.alloc o0).alloc o1).alloc o2).alloc o3)):=fun o0 o1 o2 o3=>((((Below.refl _ _).alloc (Nat.le_refl _) _).alloc (by simp) _).alloc (by simp;omega) _).alloc (by simp;omega) _
 cases x with
 | true=>
   have hD2:Hid (D=⟨2,1,0,[]⟩):=hD.out
   clear hD
   go_enter Tryz.func36,Tryz.ntmps36
   go_wp2_with fail
   refine bodyPost_ret (v:=coV ⟨2,1,0,[]⟩ (.slice none 0 0)) (by simp[results,Tryz.results36,go_sem, *]) rfl ?_
   exact⟨_,by rw[hD2.out],by rw[hD2.out];exact CSP.leaf _ ⟨aw_64 _ rfl,aw_64 _ rfl,aw_64 _ rfl⟩,hA4.out _ _ _ _⟩
 | false=>
   have hD2:Hid (D=⟨2,0,0,[]⟩):=hD.out
   clear hD
   go_enter Tryz.func36,Tryz.ntmps36
   go_wp2_with fail
   refine bodyPost_ret (v:=coV ⟨2,0,0,[]⟩ (.slice none 0 0)) (by simp[results,Tryz.results36,go_sem, *]) rfl ?_
   exact⟨_,by rw[hD2.out],by rw[hD2.out];exact CSP.leaf _ ⟨aw_64 _ rfl,aw_64 _ rfl,aw_64 _ rfl⟩,hA4.out _ _ _ _⟩
set_option maxHeartbeats 1000000 in
set_option maxRecDepth 20000 in
theorem whole_rep (E:EnvP)(t:Co)(hop:t.op=3)(hR:REv E t)(hC:C64 (telV E t).1):WhC E t:=by
 intro v v1 v2 w hs he
 have HEv:=chid (fun W (hW:Below w.heap.size w W)=>hR v v1 v2 W (hs.next hW) (he.next hW))
 obtain⟨a1,c1,a2,c2,rfl,rfl⟩:=he.shape
 obtain⟨ad,cap,rfl,-,-⟩:=hs.parts.shape
 obtain⟨D,hD⟩:∃ D,Hid (D=wholeF E t):=⟨_,rfl⟩
 rw[<-hD.out]
 rw[wholeF_eq,if_neg (by omega),if_neg (by omega),if_pos hop] at hD
 generalize telV E t=tv at *
 obtain⟨xn,xr⟩:=tv
 dsimp only at hD hC
 have HN:=chid num18_c
 obtain⟨Y0,Y1,Y2,Y3,B0⟩:=fo_four w 30 40 30 30 (coL t (.slice ad t.parts.length cap)) [.int .i64 E.rep,.slice a1 E.wins.length c1,.slice a2 E.crons.length c2] [.int .i64 0,.int .i64 0,.int .i64 0,.slice none 0 0] [.int .i64 t.op,.int .i64 t.n,.int .i64 t.m,.slice none 0 0]
 have HB0:=chid B0
 have HY2:=chid Y2
 have ho:(t.op==3)=true:=by simpa using hop
 have ho4:(t.op==4)=false:=by simp;omega
 have ho5:(t.op==5)=false:=by simp;omega
 clear hs he Y0 Y1 Y2 Y3 B0 hop hR
 go_enter Tryz.func36,Tryz.ntmps36
 go_wp2_with fail
 refine Calls.mono (HEv.out _ HB0.out) ?_
 rintro e w5 ⟨rfl,b5⟩
 have B5:=chid (cbelow_on HB0.out b5 HB0.out.size)
 have Y5:=chid (HY2.out.next b5)
 have hfd:∀ (a b:Value) (W:World),(Instr.field 72 (.agg #[a,b]) 1).run Tryz.prog W=.ok b W:=fun _ _ _=>by kernel_rfl
 clear b5 HEv HB0 HY2
 go_wp2_with fail
 refine Calls.mono (HN.out _ _) ?_
 rintro e w6 ⟨rfl,b6⟩
 have B6:=chid (cbelow_on B5.out b6 B5.out.size)
 have YR:=Y5.out.next b6
 clear b6 Y5
 have y0:=YR.cell 0 _ rfl
 have y1:=YR.cell 1 _ rfl
 have y2:=YR.cell 2 _ rfl
 have y3:=YR.cell 3 _ rfl
 have g0:=YR.free 0 (by simp)
 have g1:=YR.free 1 (by simp)
 have g2:=YR.free 2 (by simp)
 have g3:=YR.free 3 (by simp)
 have yl:=YR.lt
 clear YR
 go_wp2_with fail
 refine bodyPost_ret (v:=coV ⟨1,xn,0,[]⟩ (.slice none 0 0)) (by simp[results,Tryz.results36,go_sem, *]) rfl ?_
 exact⟨_,by rw[hD.out],by rw[hD.out];exact CSP.leaf _ ⟨aw_64 _ rfl,hC,aw_64 _ rfl⟩,((((B6.out.setCell (p:=⟨w.heap.size+1+1,0,none⟩) (by simp;omega) _).setCell (p:=⟨w.heap.size+1+1,1,none⟩) (by simp;omega) _).setCell (p:=⟨w.heap.size+1+1,2,none⟩) (by simp;omega) _).setCell (p:=⟨w.heap.size+1+1,3,none⟩) (by simp;omega) _)⟩
end Go.Proofs.YtepncopdjodfgaaGreatDoor
