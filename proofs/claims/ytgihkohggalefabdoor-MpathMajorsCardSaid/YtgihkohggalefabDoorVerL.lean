/- Layer 7: the answers that the laws begin with. -/
import Derived.Test.YtgihkohggalefabDoorVerP2
namespace Go.Proofs.YtgihkohggalefabDoor.AM
open Go.RowKit
set_option linter.unusedVariables false
set_option linter.unusedSimpArgs false
theorem itoa_one {i : Nat} (h : i < 10) : Lib.itoa (i : Int) = [UInt8.ofNat (48 + i)] := by
  rw [itoa_dec (by omega), Int.toNat_natCast]; exact Lib.decDigits_one h
theorem textS_one {a b c : Nat} (ha : a < 10) (hb : b < 10) (hc : c < 10) (p q : List UInt8) (h : checkS (((a : Nat) : Int), (((b : Nat) : Int), (((c : Nat) : Int), (p, q)))) = true) :
    textS (((a : Nat) : Int), (((b : Nat) : Int), (((c : Nat) : Int), (p, q)))) = 118 :: UInt8.ofNat (48 + a) :: 46 :: UInt8.ofNat (48 + b) :: 46 :: UInt8.ofNat (48 + c) :: (tailT 45 p ++ tailT 43 q) := by
  unfold textS rawT; rw [if_pos h]; dsimp only; rw [itoa_one ha, itoa_one hb, itoa_one hc]; rfl
theorem vlive_true (n : Nat) (hn : 100 ≤ n) : vlive_t n = some true := by
  have t1 : textS (1, (2, (3, ([114, 99, 46, 49], [98, 46, 48, 49])))) = [118, 49, 46, 50, 46, 51, 45, 114, 99, 46, 49, 43, 98, 46, 48, 49] := textS_one (a := 1) (b := 2) (c := 3) (by decide) (by decide) (by decide) _ _ (by kernel_rfl)
  have t2 : textS (1, (2, (3, ([], [])))) = [118, 49, 46, 50, 46, 51] := textS_one (a := 1) (b := 2) (c := 3) (by decide) (by decide) (by decide) _ _ (by kernel_rfl)
  have t3 : textS (1, (0, (0, ([97, 108, 112, 104, 97, 46, 49], [])))) = [118, 49, 46, 48, 46, 48, 45, 97, 108, 112, 104, 97, 46, 49] := textS_one (a := 1) (b := 0) (c := 0) (by decide) (by decide) (by decide) _ _ (by kernel_rfl)
  have t4 : textS (1, (0, (0, ([97, 108, 112, 104, 97, 46, 98, 101, 116, 97], [])))) = [118, 49, 46, 48, 46, 48, 45, 97, 108, 112, 104, 97, 46, 98, 101, 116, 97] := textS_one (a := 1) (b := 0) (c := 0) (by decide) (by decide) (by decide) _ _ (by kernel_rfl)
  have p1 : parseS [118, 49, 46, 50, 46, 51, 45, 114, 99, 46, 49, 43, 98, 46, 48, 49] = ((1, (2, (3, ([114, 99, 46, 49], [98, 46, 48, 49])))), true) := parse_of (by kernel_rfl) t1
  have p2 : parseS [118, 49, 46, 48, 50, 46, 51] = (v0, false) := by
    have hc : candP [118, 49, 46, 48, 50, 46, 51] = (1, (2, (3, ([], [])))) := by kernel_rfl
    unfold parseS; rw [hc, t2]; rfl
  have p3 : parseS [118, 49, 46, 48, 46, 48, 45, 97, 108, 112, 104, 97, 46, 49] = ((1, (0, (0, ([97, 108, 112, 104, 97, 46, 49], [])))), true) := parse_of (by kernel_rfl) t3
  have p4 : parseS [118, 49, 46, 48, 46, 48, 45, 97, 108, 112, 104, 97, 46, 98, 101, 116, 97] = ((1, (0, (0, ([97, 108, 112, 104, 97, 46, 98, 101, 116, 97], [])))), true) := parse_of (by kernel_rfl) t4
  unfold vlive_t
  rw [vParse_spec n _ (by simp) (by omega), vParse_spec n _ (by simp) (by omega), vParse_spec n _ (by simp) (by omega), vParse_spec n _ (by simp) (by omega), vMax_spec n _ (by simp) hn (by simp; omega)]
  simp only [p1, p2, p3, p4, Option.bind_some, vBump_spec n _ _ hn, vCompare_spec n _ _ hn, vCheck_spec n _ (show 4 ≤ n by omega), vText_spec n _ (show 4 ≤ n by omega), t1]
  decide +kernel
theorem textS_ne {v : VD} (h : checkS v = true) : textS v ≠ [] := by
  unfold textS rawT; rw [if_pos h]; simp
theorem textS_len (v : VD) : (textS v).length ≤ 92 := by
  unfold textS; split
  · rename_i h; exact raw_len h
  · simp
end Go.Proofs.YtgihkohggalefabDoor.AM
