
import Derived.Test.YthpgnliicpejoaaGreatDoorVu16
import Derived.Test.YthpgnliicpejoaaGreatDoorVu17
import Derived.Test.YthpgnliicpejoaaGreatDoorVu6
import Derived.Test.YthpgnliicpejoaaGreatDoorVu15
import Derived.Test.YthpgnliicpejoaaGreatDoorVu5
namespace Go.Proofs.YthpgnliicpejoaaGreatDoor
open Go.RowKit
attribute [local go_sem ↓] Go.wp_at_zero Go.wp_at_succ
namespace RecW
end RecW
end Go.Proofs.YthpgnliicpejoaaGreatDoor
namespace Go.Proofs.YthpgnliicpejoaaGreatDoor
open Go.RowKit
namespace RM
def jd8 (k g q:Int) (s:ByteArray):Value:=if may k g q (s.size:Int) (SM.q1k 1 s.data.toList) then hd k g q (s.size:Int) (SM.q1k 1 s.data.toList) else hd 0 0 0 0 0
theorem j5l (k g q:Int) (s:ByteArray) (h:may k g q (s.size:Int) (SM.q1k 1 s.data.toList)):jd8 k g q s=hd k g q (s.size:Int) (SM.q1k 1 s.data.toList):=if_pos h
theorem jbb (k g q:Int) (s:ByteArray) (h : ¬ may k g q (s.size:Int) (SM.q1k 1 s.data.toList)):jd8 k g q s=hd 0 0 0 0 0:=if_neg h
end RM
namespace RecW
set_option maxHeartbeats 3200000 in
set_option maxRecDepth 100000 in
theorem jch (k g q:Int) (s:ByteArray) (w:World) (hs:s.size<=maxLen) :
  Calls Tryz.prog 109 #[.int .i64 k,.int .i64 g,.int .i64 q,.string s] w fun e w'=>e = .returned (.tuple #[RM.jd8 k g q s,.bool (decide (RM.may k g q (s.size:Int) (SM.q1k 1 s.data.toList)))])/\Below w.heap.size w w':=by
 have hbm : -9223372036854775808<=SM.q1k 1 s.data.toList/\SM.q1k 1 s.data.toList<=9223372036854775807:=by have:=SM.j6o 1 s.data.toList;omega
 by_cases hm:RM.may k g q (s.size:Int) (SM.q1k 1 s.data.toList)
 ·have hd:decide (RM.may k g q (s.size:Int) (SM.q1k 1 s.data.toList))=true:=decide_eq_true hm
  rw [RM.j5l k g q s hm,hd]
  clear hm
  go_enter Tryz.func109,Tryz.ntmps109
  go_wp2_with fail
  refine (SumW.j8x _ _ hs).mono ?_;rintro e w' ⟨rfl,rfl⟩
  go_wp2_with fail
  refine (q86 _ _ _ _ _ _ hbm).mono ?_;rintro e w2 ⟨rfl,hb2⟩
  have hB2:Below w.heap.size w w2:=Below.trans (by repeat' first|(with_reducible exact Below.refl _ _)|(with_reducible refine Lib.q2e ?_ _)|(with_reducible refine Below.drew ?_)|(with_reducible refine Below.alloc ?_ ?_ _)|(with_reducible refine Below.setCell ?_ ?_ _)|(simp<;>omega)) (hb2.mono (by simp<;>omega))
  have q0:w2.cell? ⟨w.heap.size,0,none⟩=some (.int .i64 0):=(hb2.cell (by first|omega|(simp<;>omega))).trans (by go_simp)
  have f0:w2.frozen? ⟨w.heap.size,0,none⟩=false:=(hb2.frozen (by first|omega|(simp<;>omega))).trans (by go_simp)
  have v0:w2.cell? ⟨w.heap.size+1,0,none⟩=some (.int .i64 (k)):=(hb2.cell (by first|omega|(simp<;>omega))).trans (by go_simp)
  have q1:w2.cell? ⟨w.heap.size,1,none⟩=some (.int .i64 0):=(hb2.cell (by first|omega|(simp<;>omega))).trans (by go_simp)
  have f1:w2.frozen? ⟨w.heap.size,1,none⟩=false:=(hb2.frozen (by first|omega|(simp<;>omega))).trans (by go_simp)
  have v1:w2.cell? ⟨w.heap.size+1,1,none⟩=some (.int .i64 (g)):=(hb2.cell (by first|omega|(simp<;>omega))).trans (by go_simp)
  have q2:w2.cell? ⟨w.heap.size,2,none⟩=some (.int .i64 0):=(hb2.cell (by first|omega|(simp<;>omega))).trans (by go_simp)
  have f2:w2.frozen? ⟨w.heap.size,2,none⟩=false:=(hb2.frozen (by first|omega|(simp<;>omega))).trans (by go_simp)
  have v2:w2.cell? ⟨w.heap.size+1,2,none⟩=some (.int .i64 (q)):=(hb2.cell (by first|omega|(simp<;>omega))).trans (by go_simp)
  have q3:w2.cell? ⟨w.heap.size,3,none⟩=some (.int .i64 0):=(hb2.cell (by first|omega|(simp<;>omega))).trans (by go_simp)
  have f3:w2.frozen? ⟨w.heap.size,3,none⟩=false:=(hb2.frozen (by first|omega|(simp<;>omega))).trans (by go_simp)
  have v3:w2.cell? ⟨w.heap.size+1,3,none⟩=some (.int .i64 ((s.size:Int))):=(hb2.cell (by first|omega|(simp<;>omega))).trans (by go_simp)
  have q4:w2.cell? ⟨w.heap.size,4,none⟩=some (.int .i64 0):=(hb2.cell (by first|omega|(simp<;>omega))).trans (by go_simp)
  have f4:w2.frozen? ⟨w.heap.size,4,none⟩=false:=(hb2.frozen (by first|omega|(simp<;>omega))).trans (by go_simp)
  have v4:w2.cell? ⟨w.heap.size+1,4,none⟩=some (.int .i64 (SM.q1k 1 s.data.toList)):=(hb2.cell (by first|omega|(simp<;>omega))).trans (by go_simp)
  clear hb2
  go_wp2_with fail
  refine bodyPost_ret (q16 rfl _ _ w.heap.size (k) (g) (q) ((s.size:Int)) (SM.q1k 1 s.data.toList) rfl (by go_simp) (by go_simp) (by go_simp) (by go_simp) (by go_simp)) rfl ?_
  exact ⟨rfl,by repeat' first|(with_reducible exact hB2)|(with_reducible refine Below.setCell ?_ ?_ _)|omega|(simp<;>omega)⟩
 ·have hd:decide (RM.may k g q (s.size:Int) (SM.q1k 1 s.data.toList))=false:=decide_eq_false hm
  rw [RM.jbb k g q s hm,hd]
  clear hm
  go_enter Tryz.func109,Tryz.ntmps109
  go_wp2_with fail
  refine (SumW.j8x _ _ hs).mono ?_;rintro e w' ⟨rfl,rfl⟩
  go_wp2_with fail
  refine (q86 _ _ _ _ _ _ hbm).mono ?_;rintro e w2 ⟨rfl,hb2⟩
  have hB2:Below w.heap.size w w2:=Below.trans (by repeat' first|(with_reducible exact Below.refl _ _)|(with_reducible refine Lib.q2e ?_ _)|(with_reducible refine Below.drew ?_)|(with_reducible refine Below.alloc ?_ ?_ _)|(with_reducible refine Below.setCell ?_ ?_ _)|(simp<;>omega)) (hb2.mono (by simp<;>omega))
  have q0:w2.cell? ⟨w.heap.size,0,none⟩=some (.int .i64 0):=(hb2.cell (by first|omega|(simp<;>omega))).trans (by go_simp)
  have f0:w2.frozen? ⟨w.heap.size,0,none⟩=false:=(hb2.frozen (by first|omega|(simp<;>omega))).trans (by go_simp)
  have v0:w2.cell? ⟨w.heap.size+1,0,none⟩=some (.int .i64 (k)):=(hb2.cell (by first|omega|(simp<;>omega))).trans (by go_simp)
  have q1:w2.cell? ⟨w.heap.size,1,none⟩=some (.int .i64 0):=(hb2.cell (by first|omega|(simp<;>omega))).trans (by go_simp)
  have f1:w2.frozen? ⟨w.heap.size,1,none⟩=false:=(hb2.frozen (by first|omega|(simp<;>omega))).trans (by go_simp)
  have v1:w2.cell? ⟨w.heap.size+1,1,none⟩=some (.int .i64 (g)):=(hb2.cell (by first|omega|(simp<;>omega))).trans (by go_simp)
  have q2:w2.cell? ⟨w.heap.size,2,none⟩=some (.int .i64 0):=(hb2.cell (by first|omega|(simp<;>omega))).trans (by go_simp)
  have f2:w2.frozen? ⟨w.heap.size,2,none⟩=false:=(hb2.frozen (by first|omega|(simp<;>omega))).trans (by go_simp)
  have v2:w2.cell? ⟨w.heap.size+1,2,none⟩=some (.int .i64 (q)):=(hb2.cell (by first|omega|(simp<;>omega))).trans (by go_simp)
  have q3:w2.cell? ⟨w.heap.size,3,none⟩=some (.int .i64 0):=(hb2.cell (by first|omega|(simp<;>omega))).trans (by go_simp)
  have f3:w2.frozen? ⟨w.heap.size,3,none⟩=false:=(hb2.frozen (by first|omega|(simp<;>omega))).trans (by go_simp)
  have v3:w2.cell? ⟨w.heap.size+1,3,none⟩=some (.int .i64 ((s.size:Int))):=(hb2.cell (by first|omega|(simp<;>omega))).trans (by go_simp)
  have q4:w2.cell? ⟨w.heap.size,4,none⟩=some (.int .i64 0):=(hb2.cell (by first|omega|(simp<;>omega))).trans (by go_simp)
  have f4:w2.frozen? ⟨w.heap.size,4,none⟩=false:=(hb2.frozen (by first|omega|(simp<;>omega))).trans (by go_simp)
  have v4:w2.cell? ⟨w.heap.size+1,4,none⟩=some (.int .i64 (SM.q1k 1 s.data.toList)):=(hb2.cell (by first|omega|(simp<;>omega))).trans (by go_simp)
  clear hb2
  go_wp2_with fail
  refine bodyPost_ret (q16 rfl _ _ w.heap.size 0 0 0 0 0 rfl (by go_simp) (by go_simp) (by go_simp) (by go_simp) (by go_simp)) rfl ?_
  exact ⟨rfl,by repeat' first|(with_reducible exact hB2)|(with_reducible refine Below.setCell ?_ ?_ _)|omega|(simp<;>omega)⟩
end RecW
end Go.Proofs.YthpgnliicpejoaaGreatDoor
namespace Go.Proofs.YthpgnliicpejoaaGreatDoor.AM
open Go.RowKit
set_option linter.unusedVariables false
theorem jlk {β:Type} {l:List β} {j:Nat} (h:j<l.length):nth l j=some l[j]:=by rw [q6h,List.getElem?_eq_getElem h]
theorem q2h {β:Type} {l:List β} {j:Nat} (h:j<l.length):q1a l (j:Int)=some l[j]:=by
 unfold q1a;rw [if_pos (by omega),Int.toNat_natCast,jlk h]
theorem qz9 {s:List UInt8} {j:Nat} (h:j<s.length):sAt s (j:Int)=some ((s[j].toNat:Nat):Int):=by
 unfold sAt;rw [q2h h];rfl
theorem sub_le {β:Type} {l:List β} {a b:Nat} (h1:a<=b) (h2:b<=l.length):q4i l (a:Int) (b:Int)=some ((l.drop a).take (b - a)):=by
 unfold q4i;rw [if_pos ⟨by omega,by omega,by omega⟩,Int.toNat_natCast,Int.toNat_natCast]
theorem sub_zero {β:Type} {l:List β} {b:Nat} (h2:b<=l.length):q4i l (0:Int) (b:Int)=some (l.take b):=by
 have:=sub_le (l:=l) (a:=0) (b:=b) (Nat.zero_le _) h2
 simpa using this
theorem ql2 {β:Type} {k:Nat} {xs ys:List β} (h:(xs.length+ys.length)*k<=140737488355328):q3k k xs ys=some (xs++ys):=by
 unfold q3k;rw [if_pos h]
theorem q19 {i:Nat} (h:i<4611686018427387904):IntKind.wrap .i64 ((i:Int)+1)=((i+1:Nat):Int):=by rw [wrap64 (by omega) (by omega)];rfl
theorem jbr {i:Nat} (h:i<4611686018427387904):IntKind.wrap .i64 (i:Int)=(i:Int):=by rw [wrap64 (by omega) (by omega)]
theorem wrap_add {i j:Nat} (h:i<1000000000000) (h2:j<1000000000000):IntKind.wrap .i64 ((i:Int)+(j:Int))=((i+j:Nat):Int):=by rw [wrap64 (by omega) (by omega)];omega
end Go.Proofs.YthpgnliicpejoaaGreatDoor.AM
namespace Go.Proofs.YthpgnliicpejoaaGreatDoor.AM
open Go.RowKit
set_option linter.unusedVariables false
set_option maxRecDepth 20000
end Go.Proofs.YthpgnliicpejoaaGreatDoor.AM
namespace Go.Proofs
open Go.RowKit
set_option linter.unusedVariables false
set_option linter.unusedSimpArgs false
namespace YthpgnliicpejoaaGreatDoor.AM
end YthpgnliicpejoaaGreatDoor.AM
end Go.Proofs
