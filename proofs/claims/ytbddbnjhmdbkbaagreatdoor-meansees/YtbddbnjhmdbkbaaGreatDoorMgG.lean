import Derived.Test.YtbddbnjhmdbkbaaGreatDoorMhB
namespace Go.Proofs.YtbddbnjhmdbkbaaGreatDoor
open Go.RowKit
abbrev c2j (E:a0z)(v1 v2:Value):Value:=.agg #[.int .i64 E.rep,v1,v2]
structure a3v (w:World)(E:a0z)(v1 v2:Value):Prop where
 ok:b2z E
 wins:a4J w v1 E.wins
 crons:a3j w v2 E.crons
theorem a3v.next {w w':World}{E:a0z}{v1 v2:Value}(h:a3v w E v1 v2)(k:Below w.heap.size w w'):a3v w' E v1 v2:=⟨h.ok,h.wins.next k,h.crons.next k⟩
theorem a3v.shape {w:World}{E:a0z}{v1 v2:Value}(h:a3v w E v1 v2):∃ a1 c1 a2 c2,v1=.slice a1 E.wins.length c1/\v2=.slice a2 E.crons.length c2:=by
 obtain⟨a1,c1,e1,-⟩:=h.wins
 obtain⟨a2,c2,e2,-⟩:=h.crons
 exact⟨a1,c1,a2,c2,e1,e2⟩
set_option maxHeartbeats 1000000 in
theorem a9C (E:a0z)(v1 v2:Value)(w:World)(h:a3v w E v1 v2)(hg:GlE w):Calls Tryz.prog 62 #[c2j E v1 v2] w fun e w'=>∃ tb b,e=.returned (.pointer (some ⟨tb,0,none⟩))/\a7U w' tb b E/\Below w.heap.size w w':=by
 obtain⟨a1,c1,a2,c2,rfl,rfl⟩:=h.shape
 have H:=a0a h
 have HG:=a0a hg
 have HA:Hid (∀ o,Below w.heap.size w (w.alloc o)):=fun o=>(ZD _ _).alloc (ZB _) _
 generalize E.wins.length=L1 at *
 generalize E.crons.length=L2 at *
 have X0:=Box.new w [.int .i64 E.rep,.slice a1 L1 c1,.slice a2 L2 c2] 40
 obtain⟨d0,d1,d2⟩:=Box.c3 X0
 have x0:=X0.lt
 have HKa:=a0a (HA.out (.cells [.int .i64 E.rep,.slice a1 L1 c1,.slice a2 L2 c2].toArray 40))
 clear h hg HA X0
 go_enter Tryz.func62,Tryz.ntmps62
 go_wp2_with fail
 generalize hW0:w.alloc _=w0 at *
 clear hW0
 go_region_held3 (fun w'=>w'.cell? ⟨w.heap.size,0,none⟩=some (.int .i64 E.rep)/\w'.cell? ⟨w.heap.size,1,none⟩=some (.slice a1 L1 c1)/\w'.cell? ⟨w.heap.size,2,none⟩=some (.slice a2 L2 c2)) (simp[go_sem, *]) (first|(go_at_call 78;refine ZE (c0j _) ?_;rintro e w1 ⟨b,rfl,hr,B1⟩;have g0:=fun p v hp hv=>(B1.cell (p:=p) hp).trans (hv:w0.cell? p=some v);replace d0:=g0 _ _ x0 d0;replace d1:=g0 _ _ x0 d1;replace d2:=g0 _ _ x0 d2;have x1:w.heap.size<w1.heap.size:=ZA x0 B1.size;clear g0))
 have hb1:Below w0.heap.size w0 w1:=⟨B1.os,B1.tape,B1.output,B1.size,B1.block⟩
 have hb2:=(ZD w1.heap.size w1).alloc (ZB _) (.cells [.slice (some ⟨b,0,none⟩) 33 33,.int .i64 E.rep,.slice a1 L1 c1,.slice a2 L2 c2].toArray 172)
 have X2:=Box.new w1 [.slice (some ⟨b,0,none⟩) 33 33,.int .i64 E.rep,.slice a1 L1 c1,.slice a2 L2 c2] 172
 have HB1:=a0b HKa.out hb1 HKa.out.size
 have HB2:=a0b HB1 hb2 HB1.size
 have HT:Hid (a7U (w1.alloc (.cells [.slice (some ⟨b,0,none⟩) 33 33,.int .i64 E.rep,.slice a1 L1 c1,.slice a2 L2 c2].toArray 172)) w1.heap.size b E):=⟨H.out.ok,⟨_,_,X2,H.out.wins.next HB2,H.out.crons.next HB2⟩,hr.next hb2,GlE.next HG.out HB2⟩
 have HBe:=a0a HB2
 clear d0 d1 d2 hb1 hb2 X2 HB1 HB2 hr B1
 go_wp2_with fail
 go_ret
 exact⟨_,_,rfl,HT.out,HBe.out⟩
end Go.Proofs.YtbddbnjhmdbkbaaGreatDoor
