import Derived.Test.YtepncopdjodfgaaGreatDoorMhY
namespace Go.Proofs.YtepncopdjodfgaaGreatDoor
open Go.RowKit
def rawV (x:Rs):Value:=if x.2=0 then .agg #[.bool false,.int .i64 0,.int .i64 x.1] else .agg #[.bool true,.int .i64 x.2,.int .i64 0]
theorem rawV_ok (n:Int):rawV (n,0)=.agg #[.bool false,.int .i64 0,.int .i64 n]:=if_pos rfl
theorem rawV_err (n:Int){e:Int}(h:e≠0):rawV (n,e)=.agg #[.bool true,.int .i64 e,.int .i64 0]:=if_neg h
end Go.Proofs.YtepncopdjodfgaaGreatDoor
