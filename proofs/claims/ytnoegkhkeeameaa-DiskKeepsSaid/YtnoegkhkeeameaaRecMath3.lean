/- Records in sectors: the sectors of a payload. -/
import Derived.Test.YtnoegkhkeeameaaRecMath2
namespace Go.Proofs.Ytnoegkhkeeameaa
open Go.RowKit
namespace RM
def cutN (s : ByteArray) : Nat := if s.size ≤ 4096 then (s.size + 30) / 31 else 0
def sec (s : ByteArray) (i : Nat) : ByteArray := str (fillL (68 :: (s.data.toList.drop (31 * i)).take 31))
def cutL (s : ByteArray) : List ByteArray := (List.range (cutN s)).map (sec s)
theorem cutL_length (s : ByteArray) : (cutL s).length = cutN s := by unfold cutL; simp
theorem cutN_count (s : ByteArray) : (max (countF (s.size : Int)) 0) = (cutN s : Int) := by
  unfold countF cutN
  by_cases h : s.size ≤ 4096
  · rw [if_pos (by omega), if_pos h]; omega
  · rw [if_neg (by omega), if_neg h]; rfl
theorem cutN_le (s : ByteArray) : cutN s ≤ 133 := by unfold cutN; split <;> omega
theorem cutN_in (s : ByteArray) (k : Nat) (h : k < cutN s) : 31 * k < s.size ∧ s.size ≤ 4096 := by
  unfold cutN at h
  split at h
  · omega
  · omega
theorem sec_size (s : ByteArray) (i : Nat) : (sec s i).size = 32 := by
  unfold sec
  rw [str_size, fillL_length]
  simp; omega
theorem sec_of (s : ByteArray) (k e : Nat) (he : e = min (31 * k + 31) s.size) : str (fillL (((⟨#[68]⟩ : ByteArray) ++ s.extract (31 * k) e).data.toList)) = sec s k := by
  unfold sec
  congr 2
  rw [ByteArray.data_append, ByteArray.data_extract]
  have hs : s.data.toList.length = s.size := by simp
  subst he
  simp only [Array.toList_append, Array.toList_extract, List.extract]
  rw [show ([68] ++ (List.drop (31 * k) s.data.toList).take (min (31 * k + 31) s.size - 31 * k) : List UInt8) = 68 :: (List.drop (31 * k) s.data.toList).take (min (31 * k + 31) s.size - 31 * k) from rfl]
  congr 1
  by_cases h : 31 * k + 31 ≤ s.size
  · rw [Nat.min_eq_left h, show 31 * k + 31 - 31 * k = 31 from by omega]
  · rw [Nat.min_eq_right (by omega), List.take_of_length_le (by simp), List.take_of_length_le (by simp; omega)]
theorem cut_snoc (s : ByteArray) (k : Nat) : (List.range (k + 1)).map (sec s) = (List.range k).map (sec s) ++ [sec s k] := by
  rw [List.range_succ, List.map_append]; rfl
theorem cutN_out (s : ByteArray) : 4096 < s.size ∨ (s.size ≤ 4096 ∧ s.size ≤ 31 * cutN s) := by
  unfold cutN; split <;> omega
theorem cutN_big (s : ByteArray) (h : 4096 < s.size) : cutN s = 0 := by unfold cutN; rw [if_neg (by omega)]
def cutV (s : ByteArray) (k : Nat) : List Value := ((List.range k).map (sec s)).map Value.string
theorem cutV_snoc (s : ByteArray) (k : Nat) : cutV s k ++ [Value.string (sec s k)] = cutV s (k + 1) := by unfold cutV; rw [cut_snoc, List.map_append]; rfl
theorem cutV_all (s : ByteArray) : cutV s (cutN s) = (cutL s).map Value.string := rfl
end RM
end Go.Proofs.Ytnoegkhkeeameaa
