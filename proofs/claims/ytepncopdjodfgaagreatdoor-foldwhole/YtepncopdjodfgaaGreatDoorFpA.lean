import Derived.Test.YtepncopdjodfgaaGreatDoorMfD
import Derived.Test.YtepncopdjodfgaaGreatDoorMgI
import Derived.Test.YtepncopdjodfgaaGreatDoorMgU
namespace Go.Proofs.YtepncopdjodfgaaGreatDoor
open Go.RowKit
theorem rSort_f (wn cn ln:Int)(h64:C64 wn/\C64 cn/\C64 ln)(t:Co):RSo wn cn ln t:=by
 induction t using Co.ind with
 | h t ih=>exact rSort_step wn cn ln h64 t ih
set_option maxHeartbeats 1000000 in
theorem rConst_c (c:Co)(ad:Option Addr)(n cap:Nat)(w:World):Calls Tryz.prog 150 #[coV c (.slice ad n cap)] w fun e w'=>e=.returned (.bool (cst c))/\Below w.heap.size w w':=by
 have B1:Hid (∀ o,Below w.heap.size w (w.alloc o)):=fun o=>(Below.refl _ _).alloc (Nat.le_refl _) _
 by_cases h0:c.op=1
 ·rw[show cst c=true from cst_iff.2 (.inl h0)]
  have k0:(c.op==1)=true:=by simpa using h0
  go_enter Tryz.func150,Tryz.ntmps150
  go_wp2_with fail
  go_ret
  exact⟨rfl,B1.out _⟩
 ·have k0:(c.op==1)=false:=by simpa using h0
  by_cases h1:c.op=2
  ·rw[show cst c=true from cst_iff.2 (.inr h1)]
   have k1:(c.op==2)=true:=by simpa using h1
   go_enter Tryz.func150,Tryz.ntmps150
   go_wp2_with fail
   go_ret
   exact⟨rfl,B1.out _⟩
  ·rw[show cst c=false from by unfold cst;simp[h0,h1]]
   have k1:(c.op==2)=false:=by simpa using h1
   go_enter Tryz.func150,Tryz.ntmps150
   go_wp2_with fail
   go_ret
   exact⟨rfl,B1.out _⟩
set_option maxHeartbeats 1000000 in
theorem rsort18_c (c:Co)(v:Value)(w:World)(hs:CSits w c v)(hn:cnodes c<=8192):Calls Tryz.prog 51 #[coV c v] w fun e w'=>e=.returned (.int .i64 (sM c))/\Below w.heap.size w w':=by
 have HC:=chid (fun W (hW:Below w.heap.size w W)=>rSort_f 256 256 256 fo_256 c v W (hs.next hW) hn)
 obtain⟨ad,cap,rfl,-,-⟩:=hs.parts.shape
 have ba:=(Below.refl w.heap.size w).alloc (Nat.le_refl _) (.cells (coL c (.slice ad c.parts.length cap)).toArray 30)
 have BA:=chid ba
 clear hs ba
 unfold sM
 generalize csort ladF 256 256 256 c=s at *
 go_enter Tryz.func51,Tryz.ntmps51
 go_wp2_with fail
 refine Calls.mono (HC.out _ BA.out) ?_
 rintro e w1 ⟨rfl,b1⟩
 have B1:=chid (cbelow_on BA.out b1 BA.out.size)
 clear b1 HC
 go_wp2_with fail
 go_ret
 exact⟨rfl,B1.out⟩
def failM (op:Int):Int:=if op=9\/(18<=op/\op<=22)\/op=25\/op=26 then 2 else 1
set_option maxHeartbeats 1000000 in
theorem rfail_c (n op:Int)(w:World):Calls Tryz.prog 153 #[.int .i64 n,.int .i64 op] w fun e w'=>e=.returned (coV ⟨6,n,failM op,[]⟩ (.slice none 0 0))/\Below w.heap.size w w':=by
 have HA:Hid (∀ o,Below w.heap.size w (w.alloc o)):=fun o=>(Below.refl _ _).alloc (Nat.le_refl _) _
 by_cases h:op=9\/(18<=op/\op<=22)\/op=25\/op=26
 ·rw[show failM op=2 from if_pos h]
  rcases h with rfl | h | rfl | rfl
  ·go_enter Tryz.func153,Tryz.ntmps153
   go_wp2_with fail
   refine bodyPost_ret (v:=coV ⟨6,n,2,[]⟩ (.slice none 0 0)) (by simp[results,Tryz.results153,go_sem, *]) rfl ?_
   exact⟨rfl,HA.out _⟩
  ·obtain⟨h1,h2⟩:=h
   have n9:(op==9)=false:=by simp;omega
   go_enter Tryz.func153,Tryz.ntmps153
   go_wp2_with fail
   refine bodyPost_ret (v:=coV ⟨6,n,2,[]⟩ (.slice none 0 0)) (by simp[results,Tryz.results153,go_sem, *]) rfl ?_
   exact⟨rfl,HA.out _⟩
  ·go_enter Tryz.func153,Tryz.ntmps153
   go_wp2_with fail
   refine bodyPost_ret (v:=coV ⟨6,n,2,[]⟩ (.slice none 0 0)) (by simp[results,Tryz.results153,go_sem, *]) rfl ?_
   exact⟨rfl,HA.out _⟩
  ·go_enter Tryz.func153,Tryz.ntmps153
   go_wp2_with fail
   refine bodyPost_ret (v:=coV ⟨6,n,2,[]⟩ (.slice none 0 0)) (by simp[results,Tryz.results153,go_sem, *]) rfl ?_
   exact⟨rfl,HA.out _⟩
 ·rw[show failM op=1 from if_neg h]
  have n9:(op==9)=false:=by simp;omega
  have n25:(op==25)=false:=by simp;omega
  have n26:(op==26)=false:=by simp;omega
  by_cases h18:18<=op
  ·have h22:¬ op<=22:=by omega
   clear h
   go_enter Tryz.func153,Tryz.ntmps153
   go_wp2_with fail
   refine bodyPost_ret (v:=coV ⟨6,n,1,[]⟩ (.slice none 0 0)) (by simp[results,Tryz.results153,go_sem, *]) rfl ?_
   exact⟨rfl,HA.out _⟩
  ·clear h
   go_enter Tryz.func153,Tryz.ntmps153
   go_wp2_with fail
   refine bodyPost_ret (v:=coV ⟨6,n,1,[]⟩ (.slice none 0 0)) (by simp[results,Tryz.results153,go_sem, *]) rfl ?_
   exact⟨rfl,HA.out _⟩
end Go.Proofs.YtepncopdjodfgaaGreatDoor
