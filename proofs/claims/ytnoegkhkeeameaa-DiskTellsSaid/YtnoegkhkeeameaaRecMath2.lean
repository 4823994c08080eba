/- Records in sectors: counts, sectors, heads. -/
import Derived.Test.YtnoegkhkeeameaaRecMath
namespace Go.Proofs.Ytnoegkhkeeameaa
open Go.RowKit
namespace RM
def countF (n : Int) : Int := if 0 ≤ n ∧ n ≤ 4096 then (n + 30) / 31 else -1
theorem getD_extract (s : ByteArray) (k j : Nat) (h : s.size = 32) (hk : k + j < 32) : (s.extract k 32).data.toList.getD j 0 = s.data.toList.getD (k + j) 0 := by
  have hs : s.data.size = 32 := h
  rw [ByteArray.data_extract]
  simp only [List.getD, Array.getElem?_toList, Array.getElem?_extract]
  rw [if_pos (by omega)]
theorem num_extract (s : ByteArray) (k : Nat) (h : s.size = 32) (hk : k + 4 ≤ 32) : num (s.extract k 32).data.toList 0 = num s.data.toList k := by
  unfold num
  rw [getD_extract s k 0 h (by omega), getD_extract s k (0 + 1) h (by omega), getD_extract s k (0 + 2) h (by omega), getD_extract s k (0 + 3) h (by omega)]
  simp
theorem num_lt (l : List UInt8) (k : Nat) : 0 ≤ num l k ∧ num l k < 4294967296 := by
  unfold num
  have h0 := (l.getD k 0).toNat_lt
  have h1 := (l.getD (k + 1) 0).toNat_lt
  have h2 := (l.getD (k + 2) 0).toNat_lt
  have h3 := (l.getD (k + 3) 0).toNat_lt
  omega
/-- what the numbers of a sector would be -/
def kindF (s : ByteArray) : Int := ((s.data.toList.getD 1 0).toNat : Int)
def numAt (s : ByteArray) (k : Nat) : Int := num s.data.toList k
def readOk (s : ByteArray) : Prop := s.size = 32 ∧ may (kindF s) (numAt s 2) (numAt s 6) (numAt s 10) (numAt s 14) ∧ str (textL (kindF s) (numAt s 2) (numAt s 6) (numAt s 10) (numAt s 14)) = s
instance (s : ByteArray) : Decidable (readOk s) := by unfold readOk; infer_instance
def hd (k g q z m : Int) : Value := .agg #[.int .i64 k, .int .i64 g, .int .i64 q, .int .i64 z, .int .i64 m]
def readV (s : ByteArray) : Value := if readOk s then hd (kindF s) (numAt s 2) (numAt s 6) (numAt s 10) (numAt s 14) else hd 0 0 0 0 0
theorem readV_no (s : ByteArray) (h : ¬ readOk s) : readV s = hd 0 0 0 0 0 := if_neg h
theorem readV_yes (s : ByteArray) (h : readOk s) : readV s = hd (kindF s) (numAt s 2) (numAt s 6) (numAt s 10) (numAt s 14) := if_pos h
theorem bytes_ext {a b : ByteArray} (h : a.toList = b.toList) : a = b := by
  apply ByteArray.ext
  apply Array.ext'
  rw [← ByteArray.toList_eq, ← ByteArray.toList_eq, h]
theorem read_bad (s : ByteArray) (h1 : may (kindF s) (numAt s 2) (numAt s 6) (numAt s 10) (numAt s 14)) (h2 : (!(textB (kindF s) (numAt s 2) (numAt s 6) (numAt s 10) (numAt s 14)).toList == s.toList) = true) : ¬ readOk s := by
  rintro ⟨_, _, h3⟩
  unfold textB at h2
  rw [if_pos h1, h3] at h2
  simp at h2
theorem read_good (s : ByteArray) (hz : s.size = 32) (h1 : may (kindF s) (numAt s 2) (numAt s 6) (numAt s 10) (numAt s 14)) (h2 : (!(textB (kindF s) (numAt s 2) (numAt s 6) (numAt s 10) (numAt s 14)).toList == s.toList) = false) : readOk s := by
  refine ⟨hz, h1, ?_⟩
  unfold textB at h2
  rw [if_pos h1] at h2
  exact bytes_ext (by simpa using h2)
end RM
end Go.Proofs.Ytnoegkhkeeameaa
