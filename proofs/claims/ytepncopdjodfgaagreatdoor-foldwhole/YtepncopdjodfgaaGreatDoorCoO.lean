import Derived.Test.YtepncopdjodfgaaGreatDoorMhY
namespace Go.Proofs.YtepncopdjodfgaaGreatDoor
open Go.RowKit
set_option maxHeartbeats 1000000 in
theorem As_nil (gb:Nat)(w:World):Calls Tryz.prog 232 #[.nilIface,.iface 239 (.pointer (some ⟨gb,0,none⟩))] w fun e w'=>e=.returned (.bool false)/\w'=w:=by
 go_enter Tryz.func232,Tryz.ntmps232
 go_wp2_with fail
 go_ret
 exact⟨rfl,rfl⟩
set_option maxHeartbeats 1000000 in
theorem reasonOf_c (r:Int)(w:World)(hg:GlE w):Calls Tryz.prog 144 #[errV r] w fun e w'=>e=.returned (.int .i64 r)/\Below w.heap.size w w':=by
 have A:∀ o,Below w.heap.size w (w.alloc o):=fun o=>(Below.refl _ _).alloc (Nat.le_refl _) _
 by_cases h:r=0
 ·subst h
  rw[errV_0]
  have HC:=chid (fun gb W=>As_nil gb W)
  have HA:=chid A
  clear A hg
  go_enter Tryz.func144,Tryz.ntmps144
  go_wp2_with fail
  refine Calls.mono (HC.out _ _) ?_
  rintro e w1 ⟨rfl,rfl⟩
  go_wp2_with fail
  go_ret
  exact⟨rfl,HA.out _⟩
 ·rw[errV_n h]
  have HC:=chid (fun W (hW:Below w.heap.size w W) (hb:Box W w.heap.size [.int .i64 0])=>As_c w.heap.size r _ W (GlE.next hg hW) hb)
  have HA:=chid A
  clear A hg
  go_enter Tryz.func144,Tryz.ntmps144
  go_wp2_with fail
  refine Calls.mono (HC.out _ (HA.out _) (Box.new w _ _)) ?_
  rintro e w1 ⟨rfl,W,b1,rfl⟩
  have X:=((Box.new w [.int .i64 0] 237).next b1).set 0 (by simp) (.int .i64 r)
  have c0:=X.cell 0 _ rfl
  have x0:=X.lt
  have HB:=chid ((cbelow_on (HA.out (.cells #[.int .i64 0] 237)) b1 (by simp)).setCell (p:=⟨w.heap.size,0,none⟩) (Nat.le_refl _) (.int .i64 r))
  clear X b1
  generalize W.setCell _ _=w1 at *
  go_wp2_with fail
  go_ret
  exact⟨rfl,HB.out⟩
end Go.Proofs.YtepncopdjodfgaaGreatDoor
