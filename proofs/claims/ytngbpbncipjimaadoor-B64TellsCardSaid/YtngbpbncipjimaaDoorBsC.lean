/- Layer 13: nothing need be known of old memory. -/
import Derived.Ground.NamesProg
import Derived.Shelf.Abstract
import Derived.WalkKit
import Derived.OwnWalkIn
import Derived.LoopIn
import Derived.Lib.Hide
import Derived.Test.YtngbpbncipjimaaDoorProg
import Derived.Test.YtngbpbncipjimaaDoorArg
import Derived.Test.YtngbpbncipjimaaDoorCard
import Derived.Test.YtngbpbncipjimaaDoorBsM
namespace Go.Proofs
open Go.RowKit
set_option linter.unusedVariables false
set_option linter.unusedSimpArgs false
namespace YtngbpbncipjimaaDoor.AM
def Inv : World → Prop := fun _ => True
theorem know_inv : Know Inv Inv := ⟨fun _ _ _ _ => trivial, fun _ h => h⟩
theorem pc_done {Pc : Nat → Nat → Prop} {w w' : World} {v : Value} {d : D} {e : Ending} (he : e = .returned v) (hb : Below w.heap.size w w') (hv : DRep (noEnv Pc) noSt w' v d) :
    ∃ v' Pc', e = .returned v' ∧ Below w.heap.size w w' ∧ (∀ b o, Pc b o → Pc' b o) ∧ (∀ b o, Pc' b o → Pc b o ∨ (w.heap.size ≤ b ∧ b < w'.heap.size)) ∧ DRep (noEnv Pc') noSt w' v' d :=
  ⟨v, Pc, he, hb, fun _ _ h => h, fun _ _ h => Or.inl h, hv⟩
abbrev strA : SD := .one (.c (.d .str))
abbrev intA : SD := .one (.c (.d (.int .i64)))
abbrev boolA : SD := .one (.c (.d .bool))
theorem wrap_u32 (x : Int) : IntKind.wrap .u32 x = x % (2 ^ 32) := rfl
theorem letO_some {α β : Type} (x : α) (f : α → Option β) : letO x f = f x := rfl
theorem shr32 {x j : Nat} (hj : j ≤ 32) : shrO .u32 (x : Int) (j : Int) = some ((x / 2 ^ j : Nat) : Int) := by
  unfold shrO
  rw [if_pos (by omega)]
  have e : min (Int.toNat (j : Int)) (IntKind.bits .u32) = j := by show min (Int.toNat (j : Int)) 32 = j; rw [Int.toNat_natCast]; omega
  rw [e]
  congr 1
  rw [Int.fdiv_eq_ediv_of_nonneg _ (by have := Int.pow_pos (n := 2) (m := j) (by decide); omega)]
  rw [show ((2 : Int) ^ j) = ((2 ^ j : Nat) : Int) from (Int.natCast_pow 2 j).symm, ← Int.natCast_ediv]
theorem shl32 {x j : Nat} (hj : j ≤ 32) (h : x * 2 ^ j < 4294967296) : shlO .u32 (x : Int) (j : Int) = some ((x * 2 ^ j : Nat) : Int) := by
  unfold shlO
  rw [if_pos (by omega)]
  have e : min (Int.toNat (j : Int)) (IntKind.bits .u32) = j := by show min (Int.toNat (j : Int)) 32 = j; rw [Int.toNat_natCast]; omega
  rw [e]
  congr 1
  rw [show ((2 : Int) ^ j) = ((2 ^ j : Nat) : Int) from (Int.natCast_pow 2 j).symm, ← Int.natCast_mul, wrap_u32]
  generalize x * 2 ^ j = y at h
  omega
theorem or32 {x c j : Nat} (hj : c < 2 ^ j) (hx : x * 2 ^ j + c < 4294967296) : orI .u32 ((x * 2 ^ j : Nat) : Int) (c : Int) = ((x * 2 ^ j + c : Nat) : Int) := by
  unfold orI
  have h := Nat.shiftLeft_add_eq_or_of_lt (a := x) (b := c) (i := j) hj
  rw [Nat.shiftLeft_eq] at h
  generalize x * 2 ^ j = y at *
  have e4 : (BitVec.ofInt 32 (y : Int) ||| BitVec.ofInt 32 (c : Int)).toNat = y + c := by
    rw [BitVec.toNat_or, BitVec.ofInt_natCast, BitVec.ofInt_natCast, BitVec.toNat_ofNat, BitVec.toNat_ofNat, Nat.mod_eq_of_lt (by omega), Nat.mod_eq_of_lt (by omega)]
    exact h.symm
  have e5 : (BitVec.ofInt (IntKind.bits .u32) (y : Int) ||| BitVec.ofInt (IntKind.bits .u32) (c : Int)).toNat = y + c := e4
  rw [e5, wrap_u32]
  omega
end YtngbpbncipjimaaDoor.AM
end Go.Proofs
