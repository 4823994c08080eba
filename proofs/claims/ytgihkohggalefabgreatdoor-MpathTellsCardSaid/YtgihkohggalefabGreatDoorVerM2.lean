/- Layer 7: digits of small numbers: mathematics. -/
import Derived.Test.YtgihkohggalefabGreatDoorVerM
namespace Go.Proofs.YtgihkohggalefabGreatDoor.AM
open Go.RowKit
set_option linter.unusedVariables false
set_option linter.unusedSimpArgs false
theorem itoa_one {i : Nat} (h : i < 10) : Lib.itoa (i : Int) = [UInt8.ofNat (48 + i)] := by
  rw [itoa_dec (by omega), Int.toNat_natCast]; exact Lib.decDigits_one h
theorem itoa_rec {a : Int} (h0 : 0 ≤ a) : Lib.itoa a = if a < 10 then [UInt8.ofNat (48 + a.toNat)] else Lib.itoa (a / 10) ++ [UInt8.ofNat (48 + (a % 10).toNat)] := by
  rw [itoa_dec h0, Lib.decDigits]
  by_cases h : a < 10
  · rw [if_pos h, dif_pos (by omega)]
  · rw [if_neg h, dif_neg (by omega), itoa_dec (by omega)]
    rw [show (a / 10).toNat = a.toNat / 10 from by omega, show (a % 10).toNat = a.toNat % 10 from by omega]
theorem itoa_len {n : Int} (h : 0 ≤ n ∧ n ≤ 999999999) : (Lib.itoa n).length ≤ 9 := by
  rw [itoa_dec h.1]; exact dec_len 8 n.toNat (by omega)
theorem trimV_len (s : List UInt8) : (trimV s).length ≤ s.length := by
  unfold trimV; split
  · rw [List.length_drop]; omega
  · exact Nat.le_refl _
end Go.Proofs.YtgihkohggalefabGreatDoor.AM
