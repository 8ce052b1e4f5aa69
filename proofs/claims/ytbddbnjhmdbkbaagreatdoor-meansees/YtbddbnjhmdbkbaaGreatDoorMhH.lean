import Derived.Test.YtbddbnjhmdbkbaaGreatDoorMgF
import Derived.OpenShut
import Derived.Deep.RegionWith
namespace Go.Proofs.YtbddbnjhmdbkbaaGreatDoor
open Go.RowKit
set_option maxHeartbeats 400000 in
theorem a6K (v:Int)(w:World):Calls Tryz.prog 242 #[.pointer none,.int .i64 v] w fun e w'=>e=.returned (.tuple #[])/\w'=w:=by
 go_enter Tryz.func242,Tryz.ntmps242
 go_wp2_with fail
 go_end0
 exact⟨rfl,rfl⟩
set_option maxHeartbeats 400000 in
theorem a5e (v:Int)(w:World):Calls Tryz.prog 239 #[.pointer none,.int .i64 v] w fun e w'=>e=.returned (.tuple #[])/\w'=w:=by
 go_enter Tryz.func239,Tryz.ntmps239
 go_wp2_with fail
 go_end0
 exact⟨rfl,rfl⟩
set_option maxHeartbeats 400000 in
theorem a6N (b:Nat)(lo hi:Int)(w:World)(hb:b<w.heap.size)(c0:w.cell? ⟨b,0,none⟩=some (.int .u64 lo))(c1:w.cell? ⟨b,1,none⟩=some (.int .u64 hi)):
 Calls Tryz.prog 277 #[.pointer (some ⟨b,0,none⟩)] w fun e w'=>e=.returned (.agg #[.int .u64 lo,.int .u64 hi])/\Below w.heap.size w w':=by
 go_enter Tryz.func277,Tryz.ntmps277
 go_wp2_with fail
 refine bodyPost_ret (v:=.agg #[.int .u64 lo,.int .u64 hi]) (by simp[results,Tryz.results277,go_sem]) rfl ⟨rfl,?_⟩
 exact(Below.refl _ _).alloc (Nat.le_refl _) _
set_option maxHeartbeats 400000 in
theorem b8C (b:Nat)(lo hi n:Int)(r:Rep lo hi n)(w:World)(hb:b<w.heap.size)(c0:w.cell? ⟨b,0,none⟩=some (.int .u64 lo))(c1:w.cell? ⟨b,1,none⟩=some (.int .u64 hi)):
 Calls Tryz.prog 245 #[.pointer (some ⟨b,0,none⟩)] w fun e w'=>e=.returned (.tuple #[.int .i64 (if -9223372036854775808<=n/\n<9223372036854775808 then n else 0),.bool (decide (-9223372036854775808<=n/\n<9223372036854775808))])/\Below w.heap.size w w':=by
 by_cases h : -9223372036854775808<=n/\n<9223372036854775808
 ·rw[if_pos h,decide_eq_true h]
  go_enter Tryz.func245,Tryz.ntmps245
  go_wp2_with fail
  refine(a6N b lo hi _ hb c0 c1).mono ?_
  rintro e w1 ⟨rfl,hb1⟩
  go_wp2_with fail
  refine(b4i lo hi n r h.1 h.2 _).mono ?_
  rintro e w2 ⟨rfl,hb2⟩
  go_wp2_with fail
  go_ret2
  exact⟨rfl,a0v hb1 hb2⟩
 ·rw[if_neg h,decide_eq_false h]
  go_enter Tryz.func245,Tryz.ntmps245
  go_wp2_with fail
  refine(a6N b lo hi _ hb c0 c1).mono ?_
  rintro e w1 ⟨rfl,hb1⟩
  go_wp2_with fail
  refine(a7A lo hi n r (by omega) _).mono ?_
  rintro e w2 ⟨rfl,hb2⟩
  go_wp2_with fail
  go_ret2
  exact⟨rfl,a0v hb1 hb2⟩
def c0z (w:World)(b:Nat)(n:Int)(e:Ending)(w':World):Prop:=∃ lo hi w1,e=.returned (.tuple #[])/\Rep lo hi n/\Below w.heap.size w w1/\w'=(w1.setCell ⟨b,0,none⟩ (.int .u64 lo)).setCell ⟨b,1,none⟩ (.int .u64 hi)
set_option maxHeartbeats 1000000 in
theorem b8D (b:Nat)(lo hi a v:Int)(r:Rep lo hi a)(v0 : -9223372036854775808<=v)(v1:v<9223372036854775808)(h0 : -170141183460469231731687303715884105728<=a+v)(h1:a+v<170141183460469231731687303715884105728)
 (w:World) (hb:b<w.heap.size) (c0:w.cell? ⟨b,0,none⟩=some (.int .u64 lo)) (c1:w.cell? ⟨b,1,none⟩=some (.int .u64 hi)) (f0:w.frozen? ⟨b,0,none⟩=false) (f1:w.frozen? ⟨b,1,none⟩=false) :
 Calls Tryz.prog 242 #[.pointer (some ⟨b,0,none⟩),.int .i64 v] w (c0z w b (a+v)):=by
 go_enter Tryz.func242,Tryz.ntmps242
 go_wp2_with fail
 go_region_with (first|(go_at_call 226;refine(a2e v v0 v1 _).mono ?_;rintro e w1 ⟨l1,g1,rfl,r1,hb1⟩;have k0:=(hb1.cell (p:=⟨b,0,none⟩) hb).trans c0;have k1:=(hb1.cell (p:=⟨b,1,none⟩) hb).trans c1;have k2:=(hb1.frozen (p:=⟨b,0,none⟩) hb).trans f0;have k3:=(hb1.frozen (p:=⟨b,1,none⟩) hb).trans f1;have k4:=Nat.lt_of_lt_of_le hb hb1.size)|(go_at_call 225;refine(a7b lo hi _ _ a v r (by assumption) h0 h1 _).mono ?_;rintro e w2 ⟨l2,g2,rfl,r2,hb2⟩;have j0:=(hb2.cell (p:=⟨b,0,none⟩) k4).trans k0;have j1:=(hb2.cell (p:=⟨b,1,none⟩) k4).trans k1;have j2:=(hb2.frozen (p:=⟨b,0,none⟩) k4).trans k2;have j3:=(hb2.frozen (p:=⟨b,1,none⟩) k4).trans k3))
 all_goals go_end0
 all_goals exact⟨l2,g2,w2,rfl,r2,(((Below.refl _ _).drew).trans hb1).trans (hb2.mono hb1.size),rfl⟩
set_option maxHeartbeats 1000000 in
theorem b5y (b:Nat)(lo hi a v:Int)(r:Rep lo hi a)(v0 : -9223372036854775808<=v)(v1:v<9223372036854775808)(h0 : -170141183460469231731687303715884105728<=a-v)(h1:a-v<170141183460469231731687303715884105728)
 (w:World) (hb:b<w.heap.size) (c0:w.cell? ⟨b,0,none⟩=some (.int .u64 lo)) (c1:w.cell? ⟨b,1,none⟩=some (.int .u64 hi)) (f0:w.frozen? ⟨b,0,none⟩=false) (f1:w.frozen? ⟨b,1,none⟩=false) :
 Calls Tryz.prog 239 #[.pointer (some ⟨b,0,none⟩),.int .i64 v] w (c0z w b (a-v)):=by
 go_enter Tryz.func239,Tryz.ntmps239
 go_wp2_with fail
 go_region_with (first|(go_at_call 226;refine(a2e v v0 v1 _).mono ?_;rintro e w1 ⟨l1,g1,rfl,r1,hb1⟩;have k0:=(hb1.cell (p:=⟨b,0,none⟩) hb).trans c0;have k1:=(hb1.cell (p:=⟨b,1,none⟩) hb).trans c1;have k2:=(hb1.frozen (p:=⟨b,0,none⟩) hb).trans f0;have k3:=(hb1.frozen (p:=⟨b,1,none⟩) hb).trans f1;have k4:=Nat.lt_of_lt_of_le hb hb1.size)|(go_at_call 227;refine(a3c lo hi _ _ a v r (by assumption) h0 h1 _).mono ?_;rintro e w2 ⟨l2,g2,rfl,r2,hb2⟩;have j0:=(hb2.cell (p:=⟨b,0,none⟩) k4).trans k0;have j1:=(hb2.cell (p:=⟨b,1,none⟩) k4).trans k1;have j2:=(hb2.frozen (p:=⟨b,0,none⟩) k4).trans k2;have j3:=(hb2.frozen (p:=⟨b,1,none⟩) k4).trans k3))
 all_goals go_end0
 all_goals exact⟨l2,g2,w2,rfl,r2,(((Below.refl _ _).drew).trans hb1).trans (hb2.mono hb1.size),rfl⟩
def c3M (w:World)(n:Int)(e:Ending)(w':World):Prop:=∃ x b,e=.returned (.tuple #[.int .i64 x,.bool b])/\(b=true↔(-9223372036854775808<=n/\n<9223372036854775808))/\(b=true->x=n)/\(b=false->x=0)/\Below w.heap.size w w'
set_option maxHeartbeats 400000 in
theorem b5z (b:Nat)(lo hi a n:Int)(r:Rep lo hi a)(h0 : -170141183460469231731687303715884105728<a)(n0:1<=n)(n1:n<9223372036854775808)(w:World)(hb:b<w.heap.size)(c0:w.cell? ⟨b,0,none⟩=some (.int .u64 lo))(c1:w.cell? ⟨b,1,none⟩=some (.int .u64 hi)):
 Calls Tryz.prog 246 #[.pointer (some ⟨b,0,none⟩),.int .i64 n] w (c3M w (a/n)):=by
 have k:¬ n<1:=by omega
 have e1:fl a n=a/n:=by unfold fl;rw[if_pos (by omega)]
 have E1:Hid _:=e1
 clear e1
 go_enter Tryz.func246,Tryz.ntmps246
 go_wp2_with fail
 refine(a6N b lo hi _ hb c0 c1).mono ?_
 rintro e w1 ⟨rfl,hb1⟩
 go_wp2_with fail
 refine(a7d lo hi a n n r h0 (by omega) n1 (by omega) (by omega) (a4e _ _ (by omega) (by omega)) _).mono ?_
 rw[E1.out]
 rintro e w2 ⟨lo2,hi2,rfl,r2,hb2⟩
 generalize a/n=x at *
 clear E1
 by_cases h : -9223372036854775808<=x/\x<9223372036854775808
 ·go_wp2_with fail
  refine(b4i lo2 hi2 x r2 h.1 h.2 _).mono ?_
  rintro e w3 ⟨rfl,hb3⟩
  go_wp2_with fail
  go_ret2
  exact⟨x,true,rfl,⟨fun _=>h,fun _=>rfl⟩,fun _=>rfl,fun k=>by simp at k,a0v (a0v hb1 hb2) hb3⟩
 ·go_wp2_with fail
  refine(a7A lo2 hi2 x r2 (by omega) _).mono ?_
  rintro e w3 ⟨rfl,hb3⟩
  go_wp2_with fail
  go_ret2
  exact⟨0,false,rfl,⟨fun k=>by simp at k,fun k=>absurd k h⟩,fun k=>by simp at k,fun _=>rfl,a0v (a0v hb1 hb2) hb3⟩
theorem b1n (b:Nat)(n:Int)(n0:n<1)(w:World):
 Calls Tryz.prog 246 #[.pointer (some ⟨b,0,none⟩),.int .i64 n] w fun e w'=>e=.returned (.tuple #[.int .i64 0,.bool false])/\Below w.heap.size w w':=by
 go_enter Tryz.func246,Tryz.ntmps246
 go_wp2_with fail
 go_ret2
 exact⟨rfl,Below.refl _ _⟩
end Go.Proofs.YtbddbnjhmdbkbaaGreatDoor
