
import Derived.Test.YtapfankgdkdkgaaGreatDoorMc13
import Derived.Test.YtapfankgdkdkgaaGreatDoorMc14
import Derived.Test.YtapfankgdkdkgaaGreatDoorMc20
import Derived.Test.YtapfankgdkdkgaaGreatDoorMc21
import Derived.Test.YtapfankgdkdkgaaGreatDoorMc23
namespace Go.Proofs.YtapfankgdkdkgaaGreatDoor.AM
open Go.RowKit
set_option linter.unusedVariables false
set_option linter.unusedSimpArgs false
end Go.Proofs.YtapfankgdkdkgaaGreatDoor.AM
namespace Go.Proofs.YtapfankgdkdkgaaGreatDoor.AM
open Go.RowKit
set_option linter.unusedVariables false
set_option linter.unusedSimpArgs false
end Go.Proofs.YtapfankgdkdkgaaGreatDoor.AM
namespace Go.Proofs.YtapfankgdkdkgaaGreatDoor.AM
open Go.RowKit
set_option linter.unusedVariables false
set_option linter.unusedSimpArgs false
end Go.Proofs.YtapfankgdkdkgaaGreatDoor.AM
namespace Go.Proofs.YtapfankgdkdkgaaGreatDoor.AM
open Go.RowKit
set_option linter.unusedVariables false
set_option linter.unusedSimpArgs false
end Go.Proofs.YtapfankgdkdkgaaGreatDoor.AM
namespace Go.Proofs.YtapfankgdkdkgaaGreatDoor.AM
open Go.RowKit
set_option linter.unusedVariables false
set_option linter.unusedSimpArgs false
end Go.Proofs.YtapfankgdkdkgaaGreatDoor.AM
namespace Go.Proofs.YtapfankgdkdkgaaGreatDoor.AM
open Go.RowKit
set_option linter.unusedVariables false
set_option linter.unusedSimpArgs false
set_option synthInstance.maxSize 100000
set_option synthInstance.maxHeartbeats 0
theorem jk2 (x y:VD):(decide (x.1=y.1)&&(decide (x.2.1=y.2.1)&&(decide (x.2.2.1=y.2.2.1)&&(decide (x.2.2.2.1=y.2.2.2.1)&&(decide (x.2.2.2.2=y.2.2.2.2)&&true)))))=decide (x=y):=by
 obtain ⟨x1,x2,x3,x4,x5⟩:=x
 obtain ⟨y1,y2,y3,y4,y5⟩:=y
 simp only [Prod.mk.injEq,Bool.decide_and,Bool.and_true]
theorem jhc (x y:Rq):(decide (x.1=y.1)&&((decide (x.2.1=y.2.1)&&(decide (x.2.2.1=y.2.2.1)&&(decide (x.2.2.2.1=y.2.2.2.1)&&(decide (x.2.2.2.2.1=y.2.2.2.2.1)&&(decide (x.2.2.2.2.2=y.2.2.2.2.2)&&true)))))&&true))=decide (x=y):=by
 rw [jk2]
 obtain ⟨x1,x2⟩:=x
 obtain ⟨y1,y2⟩:=y
 simp only [Prod.mk.injEq,Bool.decide_and,Bool.and_true]
theorem drop_eq {β:Type} {a b:List β} {j:Nat} (ha:j<a.length) (hb:j<b.length):a.drop j=b.drop j↔a[j]=b[j]/\a.drop (j+1)=b.drop (j+1):=by
 rw [List.drop_eq_getElem_cons ha,List.drop_eq_getElem_cons hb,List.cons.injEq]
theorem qbp (n:Nat) (a b:List Rq) (hl:a.length=b.length) (hL:a.length<=4000000000000000000) : ∀m j:Nat,j<=a.length->a.length - j<m->q3m n m a b (j:Int)=some (if a.drop j=b.drop j then Sum.inr ((),((),())) else Sum.inl ((false,()),((),())))
 | 0,j,_,h=>absurd h (Nat.not_lt_zero _)
 | m+1,j,hj,h=>by
  rw [qas]
  unfold qcy
  by_cases c0:j<a.length
  ·have c0':((j:Nat):Int)<((a.length:Nat):Int):=by omega
   have c1:j<b.length:=by omega
   simp only [c0',decide_true,cond_true,q2g c0,q2g c1,Option.bind_some,jhc,q0e,q0w (show j<4611686018427387904 by omega),drop_eq c0 c1]
   by_cases he:a[j]=b[j]
   ·simp only [he,decide_true,Bool.not_true,cond_false,true_and]
    exact qbp n a b hl hL m (j+1) (by omega) (by omega)
   ·simp only [he,decide_false,Bool.not_false,cond_true,false_and,if_false]
  ·have c0' : ¬ ((j:Nat):Int)<((a.length:Nat):Int):=by omega
   simp only [c0',decide_false,cond_false]
   rw [List.drop_eq_nil_of_le (show a.length<=j by omega),List.drop_eq_nil_of_le (show b.length<=j by omega),if_pos rfl]
theorem zI:((0:Nat):Int)=(0:Int):=rfl
theorem lenI {β:Type} (a b:List β):decide (((a.length:Nat):Int)=((b.length:Nat):Int))=decide (a.length=b.length):=by
 by_cases h:a.length=b.length
 ·rw [decide_eq_true h,decide_eq_true (by omega)]
 ·rw [decide_eq_false h,decide_eq_false (by omega)]
theorem qth (n:Nat) (a b:List Rq) (h:a.length<=1000000) (hn:1000000<n):q82 n a b=some (decide (a=b)):=by
 unfold q82
 by_cases hl:a.length=b.length
 ·have:=qbp n a b hl (by omega) n 0 (Nat.zero_le _) (by omega)
  rw [zI,List.drop_zero,List.drop_zero] at this
  simp only [lenI,hl,decide_true,Bool.not_true,cond_false,this,Option.bind_some]
  by_cases he:a=b<;>simp [he]
 ·have he:a≠b:=fun h=>hl (by rw [h])
  simp only [lenI,hl,decide_false,Bool.not_false,cond_true,decide_eq_false he]
def ML (k:Nat) (m:MD):Prop:=m.2.2.1.length<=k/\m.2.2.2.1.length<=k/\m.2.2.2.2.1.length<=k/\m.2.2.2.2.2.length<=k
theorem leI (a b:Nat):decide (((a:Nat):Int)<=((b:Nat):Int))=decide (a<=b):=by
 by_cases h:a<=b
 ·rw [decide_eq_true h,decide_eq_true (by omega)]
 ·rw [decide_eq_false h,decide_eq_false (by omega)]
theorem gtI {β:Type} (a:List β) (k:Nat):decide (((k:Nat):Int)<((a.length:Nat):Int)) = !decide (a.length<=k):=by
 by_cases h:a.length<=k
 ·rw [decide_eq_true h,decide_eq_false (by omega)];rfl
 ·rw [decide_eq_false h,decide_eq_true (by omega)];rfl
end Go.Proofs.YtapfankgdkdkgaaGreatDoor.AM
