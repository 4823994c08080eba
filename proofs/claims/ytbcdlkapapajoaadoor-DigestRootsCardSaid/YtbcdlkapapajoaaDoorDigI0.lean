/- Layer 12: roots, by the kernel. -/
import Derived.Test.YtbcdlkapapajoaaDoorDigJ
namespace Go.Proofs
open Go.RowKit Go.Shelf Go.Lib
set_option linter.unusedVariables false
set_option linter.unusedSimpArgs false
namespace YtbcdlkapapajoaaDoor.AM
def rootN (t : Nat → Bool) : Nat → Nat → Nat
  | 0, x => x
  | b + 1, x => bif t (x + 2 ^ b) then rootN t b (x + 2 ^ b) else rootN t b x
def P64 : List Int := [2, 3, 5, 7, 11, 13, 17, 19, 23, 29, 31, 37, 41, 43, 47, 53, 59, 61, 67, 71, 73, 79, 83, 89, 97, 101, 103, 107, 109, 113, 127, 131, 137, 139, 149, 151, 157, 163, 167, 173, 179, 181, 191, 193, 197, 199, 211, 223, 227, 229, 233, 239, 241, 251, 257, 263, 269, 271, 277, 281, 283, 293, 307, 311]
theorem primes_at : ∀ i : Fin 64, (r12primes_t 400 ((i.val : Int) + 1)).bind (fun l => idxL l (i.val : Int)) = some (P64.getD i.val 0) := by decide +kernel
theorem cube_0 : ((rootN (fun y => cubB y (P64.getD 0 0)) 37 0 % 4294967296 : Nat) : Int) = K64.getD 0 0 := by decide +kernel
theorem cube_1 : ((rootN (fun y => cubB y (P64.getD 1 0)) 37 0 % 4294967296 : Nat) : Int) = K64.getD 1 0 := by decide +kernel
theorem cube_2 : ((rootN (fun y => cubB y (P64.getD 2 0)) 37 0 % 4294967296 : Nat) : Int) = K64.getD 2 0 := by decide +kernel
theorem cube_3 : ((rootN (fun y => cubB y (P64.getD 3 0)) 37 0 % 4294967296 : Nat) : Int) = K64.getD 3 0 := by decide +kernel
theorem cube_4 : ((rootN (fun y => cubB y (P64.getD 4 0)) 37 0 % 4294967296 : Nat) : Int) = K64.getD 4 0 := by decide +kernel
theorem cube_5 : ((rootN (fun y => cubB y (P64.getD 5 0)) 37 0 % 4294967296 : Nat) : Int) = K64.getD 5 0 := by decide +kernel
theorem cube_6 : ((rootN (fun y => cubB y (P64.getD 6 0)) 37 0 % 4294967296 : Nat) : Int) = K64.getD 6 0 := by decide +kernel
theorem cube_7 : ((rootN (fun y => cubB y (P64.getD 7 0)) 37 0 % 4294967296 : Nat) : Int) = K64.getD 7 0 := by decide +kernel
theorem cube_8 : ((rootN (fun y => cubB y (P64.getD 8 0)) 37 0 % 4294967296 : Nat) : Int) = K64.getD 8 0 := by decide +kernel
theorem cube_9 : ((rootN (fun y => cubB y (P64.getD 9 0)) 37 0 % 4294967296 : Nat) : Int) = K64.getD 9 0 := by decide +kernel
theorem cube_10 : ((rootN (fun y => cubB y (P64.getD 10 0)) 37 0 % 4294967296 : Nat) : Int) = K64.getD 10 0 := by decide +kernel
theorem cube_11 : ((rootN (fun y => cubB y (P64.getD 11 0)) 37 0 % 4294967296 : Nat) : Int) = K64.getD 11 0 := by decide +kernel
theorem cube_12 : ((rootN (fun y => cubB y (P64.getD 12 0)) 37 0 % 4294967296 : Nat) : Int) = K64.getD 12 0 := by decide +kernel
theorem cube_13 : ((rootN (fun y => cubB y (P64.getD 13 0)) 37 0 % 4294967296 : Nat) : Int) = K64.getD 13 0 := by decide +kernel
theorem cube_14 : ((rootN (fun y => cubB y (P64.getD 14 0)) 37 0 % 4294967296 : Nat) : Int) = K64.getD 14 0 := by decide +kernel
theorem cube_15 : ((rootN (fun y => cubB y (P64.getD 15 0)) 37 0 % 4294967296 : Nat) : Int) = K64.getD 15 0 := by decide +kernel
theorem cube_16 : ((rootN (fun y => cubB y (P64.getD 16 0)) 37 0 % 4294967296 : Nat) : Int) = K64.getD 16 0 := by decide +kernel
theorem cube_17 : ((rootN (fun y => cubB y (P64.getD 17 0)) 37 0 % 4294967296 : Nat) : Int) = K64.getD 17 0 := by decide +kernel
theorem cube_18 : ((rootN (fun y => cubB y (P64.getD 18 0)) 37 0 % 4294967296 : Nat) : Int) = K64.getD 18 0 := by decide +kernel
theorem cube_19 : ((rootN (fun y => cubB y (P64.getD 19 0)) 37 0 % 4294967296 : Nat) : Int) = K64.getD 19 0 := by decide +kernel
theorem cube_20 : ((rootN (fun y => cubB y (P64.getD 20 0)) 37 0 % 4294967296 : Nat) : Int) = K64.getD 20 0 := by decide +kernel
theorem cube_21 : ((rootN (fun y => cubB y (P64.getD 21 0)) 37 0 % 4294967296 : Nat) : Int) = K64.getD 21 0 := by decide +kernel
theorem cube_22 : ((rootN (fun y => cubB y (P64.getD 22 0)) 37 0 % 4294967296 : Nat) : Int) = K64.getD 22 0 := by decide +kernel
theorem cube_23 : ((rootN (fun y => cubB y (P64.getD 23 0)) 37 0 % 4294967296 : Nat) : Int) = K64.getD 23 0 := by decide +kernel
theorem cube_24 : ((rootN (fun y => cubB y (P64.getD 24 0)) 37 0 % 4294967296 : Nat) : Int) = K64.getD 24 0 := by decide +kernel
theorem cube_25 : ((rootN (fun y => cubB y (P64.getD 25 0)) 37 0 % 4294967296 : Nat) : Int) = K64.getD 25 0 := by decide +kernel
theorem cube_26 : ((rootN (fun y => cubB y (P64.getD 26 0)) 37 0 % 4294967296 : Nat) : Int) = K64.getD 26 0 := by decide +kernel
theorem cube_27 : ((rootN (fun y => cubB y (P64.getD 27 0)) 37 0 % 4294967296 : Nat) : Int) = K64.getD 27 0 := by decide +kernel
theorem cube_28 : ((rootN (fun y => cubB y (P64.getD 28 0)) 37 0 % 4294967296 : Nat) : Int) = K64.getD 28 0 := by decide +kernel
theorem cube_29 : ((rootN (fun y => cubB y (P64.getD 29 0)) 37 0 % 4294967296 : Nat) : Int) = K64.getD 29 0 := by decide +kernel
theorem cube_30 : ((rootN (fun y => cubB y (P64.getD 30 0)) 37 0 % 4294967296 : Nat) : Int) = K64.getD 30 0 := by decide +kernel
theorem cube_31 : ((rootN (fun y => cubB y (P64.getD 31 0)) 37 0 % 4294967296 : Nat) : Int) = K64.getD 31 0 := by decide +kernel
theorem cube_32 : ((rootN (fun y => cubB y (P64.getD 32 0)) 37 0 % 4294967296 : Nat) : Int) = K64.getD 32 0 := by decide +kernel
theorem cube_33 : ((rootN (fun y => cubB y (P64.getD 33 0)) 37 0 % 4294967296 : Nat) : Int) = K64.getD 33 0 := by decide +kernel
theorem cube_34 : ((rootN (fun y => cubB y (P64.getD 34 0)) 37 0 % 4294967296 : Nat) : Int) = K64.getD 34 0 := by decide +kernel
theorem cube_35 : ((rootN (fun y => cubB y (P64.getD 35 0)) 37 0 % 4294967296 : Nat) : Int) = K64.getD 35 0 := by decide +kernel
theorem cube_36 : ((rootN (fun y => cubB y (P64.getD 36 0)) 37 0 % 4294967296 : Nat) : Int) = K64.getD 36 0 := by decide +kernel
theorem cube_37 : ((rootN (fun y => cubB y (P64.getD 37 0)) 37 0 % 4294967296 : Nat) : Int) = K64.getD 37 0 := by decide +kernel
theorem cube_38 : ((rootN (fun y => cubB y (P64.getD 38 0)) 37 0 % 4294967296 : Nat) : Int) = K64.getD 38 0 := by decide +kernel
theorem cube_39 : ((rootN (fun y => cubB y (P64.getD 39 0)) 37 0 % 4294967296 : Nat) : Int) = K64.getD 39 0 := by decide +kernel
theorem cube_40 : ((rootN (fun y => cubB y (P64.getD 40 0)) 37 0 % 4294967296 : Nat) : Int) = K64.getD 40 0 := by decide +kernel
theorem cube_41 : ((rootN (fun y => cubB y (P64.getD 41 0)) 37 0 % 4294967296 : Nat) : Int) = K64.getD 41 0 := by decide +kernel
theorem cube_42 : ((rootN (fun y => cubB y (P64.getD 42 0)) 37 0 % 4294967296 : Nat) : Int) = K64.getD 42 0 := by decide +kernel
theorem cube_43 : ((rootN (fun y => cubB y (P64.getD 43 0)) 37 0 % 4294967296 : Nat) : Int) = K64.getD 43 0 := by decide +kernel
theorem cube_44 : ((rootN (fun y => cubB y (P64.getD 44 0)) 37 0 % 4294967296 : Nat) : Int) = K64.getD 44 0 := by decide +kernel
theorem cube_45 : ((rootN (fun y => cubB y (P64.getD 45 0)) 37 0 % 4294967296 : Nat) : Int) = K64.getD 45 0 := by decide +kernel
theorem cube_46 : ((rootN (fun y => cubB y (P64.getD 46 0)) 37 0 % 4294967296 : Nat) : Int) = K64.getD 46 0 := by decide +kernel
theorem cube_47 : ((rootN (fun y => cubB y (P64.getD 47 0)) 37 0 % 4294967296 : Nat) : Int) = K64.getD 47 0 := by decide +kernel
theorem cube_48 : ((rootN (fun y => cubB y (P64.getD 48 0)) 37 0 % 4294967296 : Nat) : Int) = K64.getD 48 0 := by decide +kernel
theorem cube_49 : ((rootN (fun y => cubB y (P64.getD 49 0)) 37 0 % 4294967296 : Nat) : Int) = K64.getD 49 0 := by decide +kernel
theorem cube_50 : ((rootN (fun y => cubB y (P64.getD 50 0)) 37 0 % 4294967296 : Nat) : Int) = K64.getD 50 0 := by decide +kernel
theorem cube_51 : ((rootN (fun y => cubB y (P64.getD 51 0)) 37 0 % 4294967296 : Nat) : Int) = K64.getD 51 0 := by decide +kernel
theorem cube_52 : ((rootN (fun y => cubB y (P64.getD 52 0)) 37 0 % 4294967296 : Nat) : Int) = K64.getD 52 0 := by decide +kernel
theorem cube_53 : ((rootN (fun y => cubB y (P64.getD 53 0)) 37 0 % 4294967296 : Nat) : Int) = K64.getD 53 0 := by decide +kernel
theorem cube_54 : ((rootN (fun y => cubB y (P64.getD 54 0)) 37 0 % 4294967296 : Nat) : Int) = K64.getD 54 0 := by decide +kernel
theorem cube_55 : ((rootN (fun y => cubB y (P64.getD 55 0)) 37 0 % 4294967296 : Nat) : Int) = K64.getD 55 0 := by decide +kernel
theorem cube_56 : ((rootN (fun y => cubB y (P64.getD 56 0)) 37 0 % 4294967296 : Nat) : Int) = K64.getD 56 0 := by decide +kernel
theorem cube_57 : ((rootN (fun y => cubB y (P64.getD 57 0)) 37 0 % 4294967296 : Nat) : Int) = K64.getD 57 0 := by decide +kernel
theorem cube_58 : ((rootN (fun y => cubB y (P64.getD 58 0)) 37 0 % 4294967296 : Nat) : Int) = K64.getD 58 0 := by decide +kernel
theorem cube_59 : ((rootN (fun y => cubB y (P64.getD 59 0)) 37 0 % 4294967296 : Nat) : Int) = K64.getD 59 0 := by decide +kernel
theorem cube_60 : ((rootN (fun y => cubB y (P64.getD 60 0)) 37 0 % 4294967296 : Nat) : Int) = K64.getD 60 0 := by decide +kernel
theorem cube_61 : ((rootN (fun y => cubB y (P64.getD 61 0)) 37 0 % 4294967296 : Nat) : Int) = K64.getD 61 0 := by decide +kernel
theorem cube_62 : ((rootN (fun y => cubB y (P64.getD 62 0)) 37 0 % 4294967296 : Nat) : Int) = K64.getD 62 0 := by decide +kernel
theorem cube_63 : ((rootN (fun y => cubB y (P64.getD 63 0)) 37 0 % 4294967296 : Nat) : Int) = K64.getD 63 0 := by decide +kernel
theorem cubes_at : ∀ (k : Nat) (h : k < 64), ((rootN (fun y => cubB y (P64.getD k 0)) 37 0 % 4294967296 : Nat) : Int) = K64.getD k 0
  | 0, _ => cube_0
  | 1, _ => cube_1
  | 2, _ => cube_2
  | 3, _ => cube_3
  | 4, _ => cube_4
  | 5, _ => cube_5
  | 6, _ => cube_6
  | 7, _ => cube_7
  | 8, _ => cube_8
  | 9, _ => cube_9
  | 10, _ => cube_10
  | 11, _ => cube_11
  | 12, _ => cube_12
  | 13, _ => cube_13
  | 14, _ => cube_14
  | 15, _ => cube_15
  | 16, _ => cube_16
  | 17, _ => cube_17
  | 18, _ => cube_18
  | 19, _ => cube_19
  | 20, _ => cube_20
  | 21, _ => cube_21
  | 22, _ => cube_22
  | 23, _ => cube_23
  | 24, _ => cube_24
  | 25, _ => cube_25
  | 26, _ => cube_26
  | 27, _ => cube_27
  | 28, _ => cube_28
  | 29, _ => cube_29
  | 30, _ => cube_30
  | 31, _ => cube_31
  | 32, _ => cube_32
  | 33, _ => cube_33
  | 34, _ => cube_34
  | 35, _ => cube_35
  | 36, _ => cube_36
  | 37, _ => cube_37
  | 38, _ => cube_38
  | 39, _ => cube_39
  | 40, _ => cube_40
  | 41, _ => cube_41
  | 42, _ => cube_42
  | 43, _ => cube_43
  | 44, _ => cube_44
  | 45, _ => cube_45
  | 46, _ => cube_46
  | 47, _ => cube_47
  | 48, _ => cube_48
  | 49, _ => cube_49
  | 50, _ => cube_50
  | 51, _ => cube_51
  | 52, _ => cube_52
  | 53, _ => cube_53
  | 54, _ => cube_54
  | 55, _ => cube_55
  | 56, _ => cube_56
  | 57, _ => cube_57
  | 58, _ => cube_58
  | 59, _ => cube_59
  | 60, _ => cube_60
  | 61, _ => cube_61
  | 62, _ => cube_62
  | 63, _ => cube_63
  | k + 64, h => absurd h (by omega)
theorem squares_at : ∀ i : Fin 8, ((rootN (fun y => sqB y (P64.getD i.val 0)) 37 0 % 4294967296 : Nat) : Int) = H8.getD i.val 0 := by decide +kernel
end YtbcdlkapapajoaaDoor.AM
end Go.Proofs
