/- The walk of law SumTells. -/
import Derived.Test.YtihblpahickhnaaSumWalks
import Derived.Below
namespace Go.Proofs.Ytihblpahickhnaa
open Go.RowKit
namespace SumW
theorem quiet_left {P : Program} {f : FuncId} {args : Array Value} {w : World} {n : Nat} {v : Value}
    (h : Calls P f args (w.drewN n) fun e w' => e = .returned v ∧ w.drewN n = w') : Calls P f args (w.drewN n) fun e w'' => e = .returned v ∧ ∃ m, w'' = w.drewN m :=
  h.mono fun _ _ ⟨he, hm⟩ => ⟨he, n, hm.symm⟩
theorem below_drewN {B : Nat} {a w : World} (h : Below B a w) (n : Nat) : Below B a (w.drewN n) := by
  exact ⟨h.os, h.tape, h.output, h.size, h.block⟩
set_option maxHeartbeats 1000000 in
theorem tells_walk (n : Int) (s : ByteArray) (x y : Int) (hn : -9223372036854775808 ≤ n ∧ n ≤ 9223372036854775807) (hs : s.size ≤ 70000)
    (hx : -9223372036854775808 ≤ x ∧ x ≤ 9223372036854775807) (hy : -9223372036854775808 ≤ y ∧ y ≤ 9223372036854775807) (w : World) :
    Calls Try.prog 9 #[.int .i64 n, .string s, .agg #[.int .i64 x, .int .i64 y]] w fun e w' => e = .returned (.bool true) ∧ Below w.heap.size w w' := by
  have hm : s.size ≤ maxLen := by unfold maxLen; omega
  have Hn := Lib.hid hn; clear hn
  have Hx := Lib.hid hx; clear hx
  have Hy := Lib.hid hy; clear hy
  have Hm := Lib.hid hm; clear hm
  go_enter Try.func9, Try.ntmps9
  go_wp2
  go_quiet ((first
    | (go_at_call 34; exact quiet_left (of_any _ _ Hm.out))
    | (go_at_call 35; exact quiet_left (rof_any _ _ Hm.out))
    | (go_at_call 36; exact quiet_left (roll_any _ _ _ Hn.out Hm.out))
    | (go_at_call 37; exact quiet_left (rroll_any _ _ _ Hn.out Hm.out))
    | (go_at_call 38; exact quiet_left (join_any _ _ _ _ Hn.out Hx.out Hy.out))
    | (go_at_call 39; exact quiet_left (rjoin_any _ _ _ _ Hn.out Hx.out Hy.out))
    | (go_at_call 33; exact quiet_left (live_any _))))
  go_wp2
  go_ret
  exact ⟨rfl, below_drewN ((Below.refl _ _).alloc (Nat.le_refl _) _) _⟩
end SumW
end Go.Proofs.Ytihblpahickhnaa
