/- Plain lemmas on the partial functions that operations are, at natural numbers. -/
import Derived.Test.YtngbpbncipjimaaDoorT7
namespace Go.Proofs.YtngbpbncipjimaaDoor.AM
open Go.RowKit
set_option linter.unusedVariables false
theorem nth_lt {β : Type} {l : List β} {j : Nat} (h : j < l.length) : nth l j = some l[j] := by rw [nth_eq, List.getElem?_eq_getElem h]
theorem idx_lt {β : Type} {l : List β} {j : Nat} (h : j < l.length) : idxL l (j : Int) = some l[j] := by
  unfold idxL; rw [if_pos (by omega), Int.toNat_natCast, nth_lt h]
theorem sAt_lt {s : List UInt8} {j : Nat} (h : j < s.length) : sAt s (j : Int) = some ((s[j].toNat : Nat) : Int) := by
  unfold sAt; rw [idx_lt h]; rfl
theorem sub_le {β : Type} {l : List β} {a b : Nat} (h1 : a ≤ b) (h2 : b ≤ l.length) : subO l (a : Int) (b : Int) = some ((l.drop a).take (b - a)) := by
  unfold subO; rw [if_pos ⟨by omega, by omega, by omega⟩, Int.toNat_natCast, Int.toNat_natCast]
theorem sub_zero {β : Type} {l : List β} {b : Nat} (h2 : b ≤ l.length) : subO l (0 : Int) (b : Int) = some (l.take b) := by
  have := sub_le (l := l) (a := 0) (b := b) (Nat.zero_le _) h2
  simpa using this
theorem app_le {β : Type} {k : Nat} {xs ys : List β} (h : (xs.length + ys.length) * k ≤ 140737488355328) : appO k xs ys = some (xs ++ ys) := by
  unfold appO; rw [if_pos h]
theorem wrap_succ {i : Nat} (h : i < 4611686018427387904) : IntKind.wrap .i64 ((i : Int) + 1) = ((i + 1 : Nat) : Int) := by rw [wrap64 (by omega) (by omega)]; rfl
theorem wrap_nat {i : Nat} (h : i < 4611686018427387904) : IntKind.wrap .i64 (i : Int) = (i : Int) := by rw [wrap64 (by omega) (by omega)]
theorem wrap_sub {i j : Nat} (h : i < 4611686018427387904) (h2 : j ≤ i) : IntKind.wrap .i64 ((i : Int) - (j : Int)) = ((i - j : Nat) : Int) := by rw [wrap64 (by omega) (by omega)]; omega
theorem wrap_add {i j : Nat} (h : i < 1000000000000) (h2 : j < 1000000000000) : IntKind.wrap .i64 ((i : Int) + (j : Int)) = ((i + j : Nat) : Int) := by rw [wrap64 (by omega) (by omega)]; omega
end Go.Proofs.YtngbpbncipjimaaDoor.AM
