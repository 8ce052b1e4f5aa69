import Derived.Test.YtecdfnpbcabdnaaGreatDoorMgD
import Derived.Lib.AppendStr
import Derived.Laws.IdiomStrings
import Derived.Laws.BytesArg
import Derived.Deep.RegionHeld3
namespace Go.Proofs.YtecdfnpbcabdnaaGreatDoor
open Go.RowKit Go.Lib
set_option maxHeartbeats 4000000 in
theorem cut_all (s:ByteArray)(w:World)(hT:TabsAt w):Calls Tryz.prog 41 #[.string s] w (CutP s w):=by
 by_cases hlong:1048576<s.size
 ·have hl:(1048576:Int)<(s.size:Int):=by omega
  have hr:Hid (cutS s=([],0,2)):=if_pos hlong
  have FIN:Hid (CutP s w (.returned (.tuple #[.slice none 0 0,.int .i64 0,.int .i64 2])) w):=by
   show CutP s w _ w
   unfold CutP
   rw[hr.out]
   exact⟨_,rfl,rfl,Below.refl _ _⟩
  clear hT hr
  generalize CutP s w=Post at *
  go_enter Tryz.func41,Tryz.ntmps41
  go_wp2_with fail
  go_ret3
  exact FIN.out
 ·exact cut_c s (by omega) w hT
end Go.Proofs.YtecdfnpbcabdnaaGreatDoor
