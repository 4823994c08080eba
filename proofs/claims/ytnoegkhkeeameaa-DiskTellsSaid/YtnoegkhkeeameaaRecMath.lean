/- Records in sectors: the functions of numbers and bytes that package rec comes to. -/
import Derived.Test.YtnoegkhkeeameaaSumMath
import Derived.WalkKit
import Derived.ProofKit
import Derived.Laws.BitsLemmas
namespace Go.Proofs.Ytnoegkhkeeameaa
open Go.RowKit
namespace RM
def be4 (n : Int) : List UInt8 := [UInt8.ofNat (n / 16777216 % 256).toNat, UInt8.ofNat (n / 65536 % 256).toNat, UInt8.ofNat (n / 256 % 256).toNat, UInt8.ofNat (n % 256).toNat]
def fillL (l : List UInt8) : List UInt8 := l ++ List.replicate (32 - l.length) 0
def str (l : List UInt8) : ByteArray := ⟨l.toArray⟩
@[simp] theorem str_size (l : List UInt8) : (str l).size = l.length := rfl
@[simp] theorem str_list (l : List UInt8) : (str l).data.toList = l := rfl
theorem str_self (s : ByteArray) : str s.data.toList = s := rfl
theorem str_append (s : ByteArray) (l : List UInt8) : s ++ (⟨l.toArray⟩ : ByteArray) = str (s.data.toList ++ l) := by
  apply ByteArray.ext; simp [str, ByteArray.data_append]
theorem be4_length (n : Int) : (be4 n).length = 4 := rfl
theorem fillL_length (l : List UInt8) (h : l.length ≤ 32) : (fillL l).length = 32 := by unfold fillL; simp; omega
theorem u8_ofNat (n : Int) (h0 : 0 ≤ n) (h1 : n < 256) : ((UInt8.ofNat n.toNat).toNat : Int) = n := by
  have : n.toNat < 256 := by omega
  simp [Nat.mod_eq_of_lt this]; omega
/-- the number that four bytes are, from a place on -/
def num (l : List UInt8) (k : Nat) : Int := ((l.getD k 0).toNat : Int) * 16777216 + ((l.getD (k + 1) 0).toNat : Int) * 65536 + ((l.getD (k + 2) 0).toNat : Int) * 256 + ((l.getD (k + 3) 0).toNat : Int)
theorem or_i64 (a b : Nat) (ha : a < 2 ^ 63) (hb : b < 2 ^ 63) : bits .or .i64 (a : Int) (b : Int) = ((a ||| b : Nat) : Int) :=
  (bits_nat .i64 63 (by decide) (fun n h0 h1 => by rw [IntKind.wrap_i64]; omega) a b ha hb).2
theorem or_low (i a b : Nat) (hb : b < 2 ^ i) (ha : 2 ^ i * a < 2 ^ 63) (hi : 2 ^ i ≤ 2 ^ 63) : bits .or .i64 ((2 ^ i * a : Nat) : Int) (b : Int) = ((2 ^ i * a + b : Nat) : Int) := by
  rw [or_i64 _ _ ha (Nat.lt_of_lt_of_le hb hi), Nat.two_pow_add_eq_or_of_lt hb]
theorem wrap_small (x : Int) (h0 : 0 ≤ x) (h1 : x < 9223372036854775808) : wrap64 x = x := by unfold wrap64; omega
theorem or_four (a b c d : Nat) (ha : a < 256) (hb : b < 256) (hc : c < 256) (hd : d < 256) :
    bits .or .i64 (bits .or .i64 (bits .or .i64 (wrap64 (wrap64 (a : Int) * 16777216)) (wrap64 (wrap64 (b : Int) * 65536))) (wrap64 (wrap64 (c : Int) * 256))) (wrap64 (d : Int)) = (a : Int) * 16777216 + (b : Int) * 65536 + (c : Int) * 256 + (d : Int) := by
  rw [wrap_small (a : Int) (by omega) (by omega), wrap_small (b : Int) (by omega) (by omega), wrap_small (c : Int) (by omega) (by omega), wrap_small (d : Int) (by omega) (by omega)]
  rw [wrap_small ((a : Int) * 16777216) (by omega) (by omega), wrap_small ((b : Int) * 65536) (by omega) (by omega), wrap_small ((c : Int) * 256) (by omega) (by omega)]
  have e1 : bits .or .i64 ((a : Int) * 16777216) ((b : Int) * 65536) = (((a * 256 + b) * 65536 : Nat) : Int) := by
    have := or_low 24 a (b * 65536) (by omega) (by omega) (by decide)
    rw [show (a : Int) * 16777216 = ((2 ^ 24 * a : Nat) : Int) from by omega, show (b : Int) * 65536 = ((b * 65536 : Nat) : Int) from by omega, this]; omega
  rw [e1]
  have e2 : bits .or .i64 (((a * 256 + b) * 65536 : Nat) : Int) ((c : Int) * 256) = ((((a * 256 + b) * 256 + c) * 256 : Nat) : Int) := by
    have := or_low 16 (a * 256 + b) (c * 256) (by omega) (by omega) (by decide)
    rw [show (((a * 256 + b) * 65536 : Nat) : Int) = ((2 ^ 16 * (a * 256 + b) : Nat) : Int) from by omega, show (c : Int) * 256 = ((c * 256 : Nat) : Int) from by omega, this]; omega
  rw [e2]
  have := or_low 8 ((a * 256 + b) * 256 + c) d (by omega) (by omega) (by decide)
  rw [show ((((a * 256 + b) * 256 + c) * 256 : Nat) : Int) = ((2 ^ 8 * ((a * 256 + b) * 256 + c) : Nat) : Int) from by omega, this]; omega
theorem add_four (a b c d : Nat) (ha : a < 256) (hb : b < 256) (hc : c < 256) (hd : d < 256) :
    wrap64 (wrap64 (wrap64 (wrap64 (16777216 * wrap64 (a : Int)) + wrap64 (65536 * wrap64 (b : Int))) + wrap64 (256 * wrap64 (c : Int))) + wrap64 (d : Int)) = (a : Int) * 16777216 + (b : Int) * 65536 + (c : Int) * 256 + (d : Int) := by
  rw [wrap_small (a : Int) (by omega) (by omega), wrap_small (b : Int) (by omega) (by omega), wrap_small (c : Int) (by omega) (by omega), wrap_small (d : Int) (by omega) (by omega)]
  rw [wrap_small (16777216 * (a : Int)) (by omega) (by omega), wrap_small (65536 * (b : Int)) (by omega) (by omega), wrap_small (256 * (c : Int)) (by omega) (by omega)]
  rw [wrap_small (16777216 * (a : Int) + 65536 * (b : Int)) (by omega) (by omega)]
  rw [wrap_small (16777216 * (a : Int) + 65536 * (b : Int) + 256 * (c : Int)) (by omega) (by omega)]
  rw [wrap_small _ (by omega) (by omega)]
  omega
theorem be4_map (n : Int) (h0 : 0 ≤ n) (h1 : n < 4294967296) : (be4 n).map (fun b => Value.int .u8 (b.toNat : Int)) = [.int .u8 (n / 16777216), .int .u8 (n / 65536 % 256), .int .u8 (n / 256 % 256), .int .u8 (n % 256)] := by
  simp only [be4, List.map_cons, List.map_nil]
  rw [u8_ofNat (n / 16777216 % 256) (by omega) (by omega), u8_ofNat (n / 65536 % 256) (by omega) (by omega), u8_ofNat (n / 256 % 256) (by omega) (by omega), u8_ofNat (n % 256) (by omega) (by omega), show n / 16777216 % 256 = n / 16777216 from by omega]
def lays (ns : List Int) : List UInt8 := ns.flatMap be4
theorem lays_length (ns : List Int) : (lays ns).length = 4 * ns.length := by
  unfold lays
  induction ns with
  | nil => rfl
  | cons a t ih => rw [List.flatMap_cons, List.length_append, ih, be4_length]; simp; omega
theorem lays_snoc (ns : List Int) (k : Nat) (h : k < ns.length) : lays (ns.take (k + 1)) = lays (ns.take k) ++ be4 ns[k] := by
  unfold lays
  rw [← List.take_append_getElem h, List.flatMap_append]; simp
def may (k g q z m : Int) : Prop := (k = 1 ∨ k = 2) ∧ (0 ≤ g ∧ g ≤ 1073741824) ∧ (0 ≤ q ∧ q ≤ 65535) ∧ (0 ≤ z ∧ z ≤ 4096) ∧ SM.isSum m
instance (k g q z m : Int) : Decidable (may k g q z m) := by unfold may; infer_instance
def textL (k g q z m : Int) : List UInt8 := fillL (72 :: UInt8.ofNat k.toNat :: lays [g, q, z, m])
def textB (k g q z m : Int) : ByteArray := if may k g q z m then str (textL k g q z m) else ByteArray.empty
theorem textL_of (k g q z m : Int) : str (fillL (((⟨#[72]⟩ : ByteArray) ++ str [UInt8.ofNat k.toNat] ++ str (lays [g, q, z, m])).data.toList)) = str (textL k g q z m) := by
  unfold textL
  rw [ByteArray.data_append, ByteArray.data_append]
  simp [str]
end RM
end Go.Proofs.Ytnoegkhkeeameaa
