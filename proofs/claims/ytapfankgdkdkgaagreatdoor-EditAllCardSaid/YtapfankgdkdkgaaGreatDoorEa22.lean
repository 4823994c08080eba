
import Derived.Test.YtapfankgdkdkgaaGreatDoorEa12
import Derived.Test.YtapfankgdkdkgaaGreatDoorEa13
import Derived.Test.YtapfankgdkdkgaaGreatDoorEa17
import Derived.Test.YtapfankgdkdkgaaGreatDoorEa19
import Derived.Test.YtapfankgdkdkgaaGreatDoorEa21
set_option linter.unusedVariables false
set_option linter.unusedSimpArgs false
namespace Go.Proofs.YtapfankgdkdkgaaGreatDoor.AM
open Go.RowKit
set_option synthInstance.maxSize 100000
set_option synthInstance.maxHeartbeats 0
theorem zI:((0:Nat):Int)=(0:Int):=rfl
def ML (k:Nat) (m:MD):Prop:=m.2.2.1.length<=k/\m.2.2.2.1.length<=k/\m.2.2.2.2.1.length<=k/\m.2.2.2.2.2.length<=k
def j5t (q:Rq):Bool:=decide (q.1.length<=200)&&(decide (q.2.2.2.2.1.length<=200)&&decide (q.2.2.2.2.2.length<=200))
theorem leI (a b:Nat):decide (((a:Nat):Int)<=((b:Nat):Int))=decide (a<=b):=by
 by_cases h:a<=b
 ·rw [decide_eq_true h,decide_eq_true (by omega)]
 ·rw [decide_eq_false h,decide_eq_false (by omega)]
theorem gtI {β:Type} (a:List β) (k:Nat):decide (((k:Nat):Int)<((a.length:Nat):Int)) = !decide (a.length<=k):=by
 by_cases h:a.length<=k
 ·rw [decide_eq_true h,decide_eq_false (by omega)];rfl
 ·rw [decide_eq_false h,decide_eq_true (by omega)];rfl
end Go.Proofs.YtapfankgdkdkgaaGreatDoor.AM
