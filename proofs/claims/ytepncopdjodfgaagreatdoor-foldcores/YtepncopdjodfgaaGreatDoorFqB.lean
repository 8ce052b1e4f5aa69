import Derived.Test.YtepncopdjodfgaaGreatDoorMfQ
import Derived.Test.YtepncopdjodfgaaGreatDoorMfI
namespace Go.Proofs.YtepncopdjodfgaaGreatDoor
open Go.RowKit
set_option maxHeartbeats 1000000 in
set_option maxRecDepth 20000 in
theorem foldCores_c (t:Co)(v:Value)(w:World)(hs:CSits w t v)(hg:GlE w):Calls Tryz.prog 7 #[coV t v] w fun e w'=>e=.returned (.bool true)/\Below w.heap.size w w':=by
 have HAw:=chid (fun W (hW:Below w.heap.size w W)=>awake18_c W (GlE.next hg hW))
 have HSm:=chid (fun W (hW:Below w.heap.size w W)=>small18_c t v W (hs.next hW))
 have HFc:=chid (fun W (hW:Below w.heap.size w W)=>fCore_c t v W (hs.next hW) (GlE.next hg hW))
 have HRc:=chid (fun W (hW:Below w.heap.size w W)=>rCore18_c t v W (hs.next hW))
 obtain⟨ad,cap,rfl,-,-⟩:=hs.parts.shape
 obtain⟨Y0,B0⟩:=one_box w 30 (coL t (.slice ad t.parts.length cap))
 have HY0:=chid Y0
 have HB0:=chid B0
 clear hs hg Y0 B0
 generalize coreF t=R at *
 obtain⟨D,er⟩:=R
 dsimp only at HFc HRc
 go_enter Tryz.func7,Tryz.ntmps7
 go_wp2_with fail
 refine Calls.mono (HAw.out _ HB0.out) ?_
 rintro e w1 ⟨rfl,b1⟩
 have B1:=chid (cbelow_on HB0.out b1 HB0.out.size)
 replace HY0:=chid (HY0.out.next b1)
 clear b1 HB0
 have x0:=HY0.out.cell 0 _ rfl
 have x1:=HY0.out.cell 1 _ rfl
 have x2:=HY0.out.cell 2 _ rfl
 have x3:=HY0.out.cell 3 _ rfl
 have xl:=HY0.out.lt
 go_wp2_with fail
 refine Calls.mono (HSm.out _ B1.out) ?_
 rintro e w2 ⟨rfl,b2⟩
 have B2:=chid (cbelow_on B1.out b2 B1.out.size)
 replace HY0:=chid (HY0.out.next b2)
 clear b2 B1 x0 x1 x2 x3 xl HSm
 by_cases hn:cnodes t<=4096
 case neg=>
  rw[decide_eq_false hn]
  go_wp2_with fail
  refine Calls.mono (HAw.out _ B2.out) ?_
  rintro e w3 ⟨rfl,b3⟩
  have B3:=chid (cbelow_on B2.out b3 B2.out.size)
  clear b3
  go_wp2_with fail
  go_ret
  exact⟨rfl,B3.out⟩
 rw[decide_eq_true hn]
 clear hn HAw
 have x0:=HY0.out.cell 0 _ rfl
 have x1:=HY0.out.cell 1 _ rfl
 have x2:=HY0.out.cell 2 _ rfl
 have x3:=HY0.out.cell 3 _ rfl
 have xl:=HY0.out.lt
 go_wp2_with fail
 refine Calls.mono (HFc.out _ B2.out) ?_
 rintro e w3 ⟨u,rfl,hu,b3⟩
 have B3:=chid (cbelow_on B2.out b3 B2.out.size)
 obtain⟨ua,uc,rfl,-,-⟩:=hu.parts.shape
 have BA:Below w3.heap.size w3 (w3.alloc (.cells (coL D (.slice ua D.parts.length uc)).toArray 30)):=(Below.refl _ _).alloc (Nat.le_refl _) _
 have BA3:=chid (cbelow_on B3.out BA B3.out.size)
 have XD:=chid (Box.new w3 (coL D (.slice ua D.parts.length uc)) 30)
 have HU:=chid (hu.next BA)
 replace HY0:=chid ((HY0.out.next b3).next BA)
 obtain⟨db,hdb⟩:∃ rb,Hid (rb=w3.heap.size):=⟨_,rfl⟩
 rw[<-hdb.out] at XD
 clear b3 B2 x0 x1 x2 x3 xl HFc hu BA
 have y0:=HY0.out.cell 0 _ rfl
 have y1:=HY0.out.cell 1 _ rfl
 have y2:=HY0.out.cell 2 _ rfl
 have y3:=HY0.out.cell 3 _ rfl
 have yl:=HY0.out.lt
 go_wp2_with fail
 rw[<-hdb.out]
 generalize hW4:w3.alloc _=w4 at *
 clear hW4
 refine Calls.mono (HRc.out _ BA3.out) ?_
 rintro e w5 ⟨u,rfl,hu,b5⟩
 have B5:=chid (cbelow_on BA3.out b5 BA3.out.size)
 obtain⟨va,vc,rfl,-,-⟩:=hu.parts.shape
 have hlt:Hid (db<w5.heap.size):=chid (Nat.lt_of_lt_of_le XD.out.lt b5.size)
 have BB:Below w5.heap.size w5 (w5.alloc (.cells (coL D (.slice va D.parts.length vc)).toArray 30)):=(Below.refl _ _).alloc (Nat.le_refl _) _
 have B6:=chid (cbelow_on B5.out BB B5.out.size)
 have XE:=chid (Box.new w5 (coL D (.slice va D.parts.length vc)) 30)
 have HV:=chid (hu.next BB)
 replace HU:=chid ((HU.out.next b5).next BB)
 replace XD:=chid ((XD.out.next b5).next BB)
 obtain⟨eb,heb⟩:∃ rb,Hid (rb=w5.heap.size):=⟨_,rfl⟩
 rw[<-heb.out] at XE
 clear b5 HRc hu BB y0 y1 y2 y3 yl HY0 BA3 B3
 have HSa:=chid (crSame_c D D _ _ _ true ⟨fun _=>rfl,fun _=>rfl⟩ HU.out HV.out)
 have dl:=XD.out.lt
 have d0:=XD.out.cell 0 _ rfl
 have d1:=XD.out.cell 1 _ rfl
 have d2:=XD.out.cell 2 _ rfl
 have d3:=XD.out.cell 3 _ rfl
 have dbl:db<w5.heap.size:=hlt.out
 go_wp2_with fail
 refine Calls.mono HSa.out ?_
 rintro e w7 ⟨rfl,b7⟩
 have B7:=chid (cbelow_on B6.out b7 B6.out.size)
 go_wp2_with fail
 go_ret
 exact⟨rfl,B7.out⟩
end Go.Proofs.YtepncopdjodfgaaGreatDoor
