/- Layer 13: the document's functions, B64Tells. -/
import Derived.Test.YtngbpbncipjimaaDoorBsP
namespace Go.Proofs
open Go.RowKit
set_option linter.unusedVariables false
set_option linter.unusedSimpArgs false
namespace YtngbpbncipjimaaDoor.AM
def intsN (l : List Nat) : List Int := l.map fun (x : Nat) => (x : Int)
theorem intsN_length (l : List Nat) : (intsN l).length = l.length := by simp [intsN]
theorem intsN_app (a b : List Nat) : intsN (a ++ b) = intsN a ++ intsN b := by simp [intsN]
theorem intsN_idx {l : List Nat} {j : Nat} (h : j < l.length) : idxL (intsN l) (j : Int) = some ((l[j] : Nat) : Int) := by
  have h' : j < (intsN l).length := by rw [intsN_length]; exact h
  rw [idx_lt h']
  congr 1
  simp [intsN]
theorem intsN_nth {l : List Nat} {j : Nat} (h : j < l.length) : nth (intsN l) j = some ((l[j] : Nat) : Int) := by
  have := intsN_idx h
  unfold idxL at this
  rw [if_pos (by omega), Int.toNat_natCast] at this
  exact this
theorem ofInt_nat {a : Nat} (h : a < 2 ^ 64) : (BitVec.ofInt 64 (a : Int)) = BitVec.ofNat 64 a := by rw [BitVec.ofInt_natCast]
theorem andN {a b : Nat} (ha : a < 2 ^ 32) (hb : b < 2 ^ 32) : andI .i64 (a : Int) (b : Int) = ((a &&& b : Nat) : Int) := by
  unfold andI
  have h := Nat.and_lt_two_pow a hb
  show IntKind.wrap .i64 (((BitVec.ofInt 64 (a : Int) &&& BitVec.ofInt 64 (b : Int)).toNat : Nat) : Int) = _
  rw [BitVec.toNat_and, BitVec.ofInt_natCast, BitVec.ofInt_natCast, BitVec.toNat_ofNat, BitVec.toNat_ofNat, Nat.mod_eq_of_lt (by omega), Nat.mod_eq_of_lt (by omega), wrap_nat (by omega)]
theorem and_low {a : Nat} (k : Nat) (hk : k ≤ 32) (ha : a < 2 ^ 32) : andI .i64 (a : Int) ((2 ^ k - 1 : Nat) : Int) = ((a % 2 ^ k : Nat) : Int) := by
  have h : 2 ^ k ≤ 2 ^ 32 := Nat.pow_le_pow_right (by decide) hk
  have h0 : 0 < 2 ^ k := Nat.pow_pos (by decide)
  rw [andN ha (by omega), Nat.and_two_pow_sub_one_eq_mod]
theorem shr64 {x j : Nat} (hj : j ≤ 64) : shrO .i64 (x : Int) (j : Int) = some ((x / 2 ^ j : Nat) : Int) := by
  unfold shrO
  rw [if_pos (by omega)]
  have e : min (Int.toNat (j : Int)) (IntKind.bits .i64) = j := by show min (Int.toNat (j : Int)) 64 = j; rw [Int.toNat_natCast]; omega
  rw [e]
  congr 1
  rw [Int.fdiv_eq_ediv_of_nonneg _ (by have := Int.pow_pos (n := 2) (m := j) (by decide); omega)]
  rw [show ((2 : Int) ^ j) = ((2 ^ j : Nat) : Int) from (Int.natCast_pow 2 j).symm, ← Int.natCast_ediv]
/-! bits -/
def bitsC (c : UInt8) : List Nat := [c.toNat / 2 ^ 7 % 2, c.toNat / 2 ^ 6 % 2, c.toNat / 2 ^ 5 % 2, c.toNat / 2 ^ 4 % 2, c.toNat / 2 ^ 3 % 2, c.toNat / 2 ^ 2 % 2, c.toNat / 2 ^ 1 % 2, c.toNat / 2 ^ 0 % 2]
theorem bit_one (n m : Nat) (s : List UInt8) (i k : Nat) (acc : List Int) (hk : k ≤ 7) (hi : i < s.length) (ha : acc.length ≤ 1000000) (z : Int) (hz : z = (k : Int) - 1) :
    r13Encode_loop1 n (m + 1) s (i : Int) (k : Int) acc = r13Encode_loop1 n m s (i : Int) z (acc ++ [((s[i].toNat / 2 ^ k % 2 : Nat) : Int)]) := by
  have hc := UInt8.toNat_lt s[i]
  rw [r13Encode_loop1_succ]
  unfold r13Encode_l1
  have h1 : s[i].toNat / 2 ^ k < 2 ^ 32 := Nat.lt_of_le_of_lt (Nat.div_le_self _ _) (by omega)
  have h2 : andI .i64 ((s[i].toNat / 2 ^ k : Nat) : Int) (1 : Int) = ((s[i].toNat / 2 ^ k % 2 : Nat) : Int) := and_low 1 (by decide) h1
  rw [decide_eq_true (by omega), cond_true, sAt_lt hi, Option.bind_some, wrap_nat (by omega), letO_some, shr64 (by omega), Option.bind_some, h2, letO_some, app_le (by simp; omega), Option.bind_some, show IntKind.wrap .i64 ((k : Int) - 1) = z from by rw [wrap64 (by omega) (by omega)]; exact hz.symm, letO_some]
theorem enc1 (n m : Nat) (s : List UInt8) (i : Nat) (acc : List Int) (hi : i < s.length) (ha : acc.length ≤ 100000) :
    r13Encode_loop1 n (m + 9) s (i : Int) (7 : Int) acc = some ((s, ((), ((i : Int), ()))), ((), (acc ++ intsN (bitsC s[i]), ()))) := by
  have e7 := bit_one n (m + 8) s i 7 acc (by decide) hi (by omega) ((6 : Nat) : Int) (by decide)
  have e : r13Encode_loop1 n (m + 9) s (i : Int) (7 : Int) acc = r13Encode_loop1 n (m + 8 + 1) s (i : Int) ((7 : Nat) : Int) acc := rfl
  rw [e, e7, bit_one n (m + 7) s i 6 _ (by decide) hi (by simp; omega) ((5 : Nat) : Int) (by decide), bit_one n (m + 6) s i 5 _ (by decide) hi (by simp; omega) ((4 : Nat) : Int) (by decide), bit_one n (m + 5) s i 4 _ (by decide) hi (by simp; omega) ((3 : Nat) : Int) (by decide), bit_one n (m + 4) s i 3 _ (by decide) hi (by simp; omega) ((2 : Nat) : Int) (by decide), bit_one n (m + 3) s i 2 _ (by decide) hi (by simp; omega) ((1 : Nat) : Int) (by decide), bit_one n (m + 2) s i 1 _ (by decide) hi (by simp; omega) ((0 : Nat) : Int) (by decide), bit_one n (m + 1) s i 0 _ (by decide) hi (by simp; omega) (-1) (by decide), r13Encode_loop1_succ]
  unfold r13Encode_l1
  rw [decide_eq_false (by decide), cond_false]
  simp only [List.append_assoc, List.cons_append, List.nil_append]
  rfl
def bitsS (s : List UInt8) : List Nat := s.flatMap bitsC
theorem enc0 (n : Nat) (hn : 20 ≤ n) (s : List UInt8) (hs : s.length ≤ 5000) : ∀ (m i : Nat) (acc : List Int), s.length - i < m → i ≤ s.length → acc.length ≤ 8 * i →
    r13Encode_loop0 n m s (i : Int) acc = some ((((), ()), ((), (acc ++ intsN (bitsS (s.drop i)), ()))))
  | 0, i, acc, h, _, _ => by omega
  | m + 1, i, acc, h, hi, ha => by
    rw [r13Encode_loop0_succ]
    unfold r13Encode_l0
    by_cases c : i < s.length
    · obtain ⟨q, rfl⟩ : ∃ q, n = q + 9 := ⟨n - 9, by omega⟩
      have e1 := enc1 (q + 9) q s i acc c (by omega)
      have ih := enc0 (q + 9) hn s hs m (i + 1) (acc ++ intsN (bitsC s[i])) (by omega) (by omega) (by rw [List.length_append, intsN_length]; show acc.length + 8 ≤ _; omega)
      rw [decide_eq_true (by omega), cond_true, e1, Option.bind_some]
      show (letO (IntKind.wrap .i64 ((i : Int) + (1 : Int))) fun (n8 : Int) => r13Encode_loop0 (q + 9) m s n8 (acc ++ intsN (bitsC s[i]))) = _
      rw [wrap_succ (by omega), letO_some, ih]
      have e2 : bitsS (s.drop i) = bitsC s[i] ++ bitsS (s.drop (i + 1)) := by
        unfold bitsS
        rw [List.drop_eq_getElem_cons c, List.flatMap_cons]
      rw [e2, intsN_app, List.append_assoc]
    · obtain rfl : i = s.length := by omega
      rw [decide_eq_false (by omega), cond_false, List.drop_length]
      show _ = some ((((), ()), ((), (acc ++ [], ()))))
      rw [List.append_nil]
def zs (l : Nat) : Nat := (6 - l % 6) % 6
theorem enc2 (n : Nat) : ∀ (m : Nat) (acc : List Int), zs acc.length < m → acc.length ≤ 99996 → r13Encode_loop2 n m acc = some ((((), ()), ((), (acc ++ List.replicate (zs acc.length) 0, ()))))
  | 0, acc, h, _ => by omega
  | m + 1, acc, h, ha => by
    rw [r13Encode_loop2_succ]
    unfold r13Encode_l2
    have hr : remO ((acc.length : Nat) : Int) (6 : Int) = some ((acc.length % 6 : Nat) : Int) := rem_nat (k := 6) (by decide)
    rw [hr, Option.bind_some]
    unfold zs at h ⊢
    by_cases c : acc.length % 6 = 0
    · rw [c, decide_eq_true (show ((0 : Nat) : Int) = 0 from rfl), Bool.not_true, cond_false]
      show _ = some ((((), ()), ((), (acc ++ [], ()))))
      rw [List.append_nil]
    · rw [decide_eq_false (by omega), Bool.not_false, cond_true, app_le (by simp; omega), Option.bind_some]
      have hl : (acc ++ [(0 : Int)]).length = acc.length + 1 := by simp
      have ih := enc2 n m (acc ++ [0]) (by unfold zs; rw [hl]; omega) (by rw [hl]; omega)
      unfold zs at ih
      rw [hl] at ih
      show r13Encode_loop2 n m (acc ++ [0]) = _
      rw [ih, List.append_assoc]
      have e : (6 - acc.length % 6) % 6 = (6 - (acc.length + 1) % 6) % 6 + 1 := by omega
      rw [e, List.replicate_succ]
      rfl
theorem v_round (n m : Nat) (B : List Nat) (i k v : Nat) (acc : List Int) (hk : k < 6) (hi : i + k < B.length) (hB : B.length ≤ 1000000) (hv : v < 1000) (hb : B[i + k] < 2) :
    r13Encode_loop4 n (m + 1) (i : Int) (v : Int) (k : Int) (intsN B) acc = r13Encode_loop4 n m (i : Int) ((2 * v + B[i + k] : Nat) : Int) ((k + 1 : Nat) : Int) (intsN B) acc := by
  rw [r13Encode_loop4_succ]
  unfold r13Encode_l4
  have e1 : IntKind.wrap .i64 ((2 : Int) * (v : Int)) = ((2 * v : Nat) : Int) := by rw [wrap64 (by omega) (by omega)]; omega
  have e2 : IntKind.wrap .i64 ((i : Int) + (k : Int)) = ((i + k : Nat) : Int) := wrap_add (by omega) (by omega)
  have e3 : IntKind.wrap .i64 (((2 * v : Nat) : Int) + ((B[i + k] : Nat) : Int)) = ((2 * v + B[i + k] : Nat) : Int) := wrap_add (by omega) (by omega)
  rw [decide_eq_true (by omega), cond_true, e1, letO_some, e2, letO_some, intsN_idx hi, Option.bind_some, Int.toNat_natCast, intsN_nth hi, Option.bind_some, e3, letO_some, wrap_succ (by omega), letO_some]
def v6 (a b c d e f : Nat) : Nat := 2 * (2 * (2 * (2 * (2 * (2 * 0 + a) + b) + c) + d) + e) + f
theorem enc4 (n m : Nat) (B : List Nat) (i : Nat) (acc : List Int) (hi : i + 6 ≤ B.length) (hB : B.length ≤ 1000000) (h2 : ∀ x ∈ B, x < 2) :
    r13Encode_loop4 n (m + 7) (i : Int) (0 : Int) (0 : Int) (intsN B) acc = some ((((), ((), ((i : Int), (((v6 (B[i + 0]'(by omega)) (B[i + 1]'(by omega)) (B[i + 2]'(by omega)) (B[i + 3]'(by omega)) (B[i + 4]'(by omega)) (B[i + 5]'(by omega)) : Nat) : Int), ())))), ((), (intsN B, (acc, ()))))) := by
  have q : ∀ j (h : i + j < B.length), B[i + j] < 2 := fun j h => h2 _ (List.getElem_mem h)
  have q0 := q 0 (by omega); have q1 := q 1 (by omega); have q2 := q 2 (by omega); have q3 := q 3 (by omega); have q4 := q 4 (by omega); have q5 := q 5 (by omega)
  have e0 := v_round n (m + 6) B i 0 0 acc (by decide) (by omega) hB (by decide) q0
  have e : r13Encode_loop4 n (m + 7) (i : Int) (0 : Int) (0 : Int) (intsN B) acc = r13Encode_loop4 n (m + 6 + 1) (i : Int) ((0 : Nat) : Int) ((0 : Nat) : Int) (intsN B) acc := rfl
  rw [e, e0, v_round n (m + 5) B i 1 _ acc (by decide) (by omega) hB (by omega) q1, v_round n (m + 4) B i 2 _ acc (by decide) (by omega) hB (by omega) q2, v_round n (m + 3) B i 3 _ acc (by decide) (by omega) hB (by omega) q3, v_round n (m + 2) B i 4 _ acc (by decide) (by omega) hB (by omega) q4, v_round n (m + 1) B i 5 _ acc (by decide) (by omega) hB (by omega) q5, r13Encode_loop4_succ]
  unfold r13Encode_l4
  rw [decide_eq_false (by decide), cond_false]
  rfl
def grpS : List Nat → List UInt8
  | a :: b :: c :: d :: e :: f :: r => sg (v6 a b c d e f) :: grpS r
  | _ => []
def intsB (l : List UInt8) : List Int := l.map fun c => ((c.toNat : Nat) : Int)
theorem intsB_len (l : List UInt8) : (intsB l).length = l.length := by simp [intsB]
theorem intsB_back (l : List UInt8) : List.map (fun n : Int => UInt8.ofNat n.toNat) (intsB l) = l := by
  unfold intsB
  rw [List.map_map]
  have : ((fun n : Int => UInt8.ofNat n.toNat) ∘ fun c : UInt8 => ((c.toNat : Nat) : Int)) = id := by funext c; simp
  rw [this, List.map_id]
theorem intsB_app (a b : List UInt8) : intsB (a ++ b) = intsB a ++ intsB b := by simp [intsB]
theorem enc3 (n : Nat) (hn : 20 ≤ n) (B : List Nat) (hB : B.length ≤ 100000) (h6 : B.length % 6 = 0) (h2 : ∀ x ∈ B, x < 2) : ∀ (m i : Nat) (acc : List Int), (B.length - i) / 6 < m → i % 6 = 0 → i ≤ B.length → acc.length ≤ i →
    r13Encode_loop3 n m (i : Int) (intsN B) acc = some ((((), ()), ((), (acc ++ intsB (grpS (B.drop i)), ()))))
  | 0, i, acc, h, _, _, _ => by omega
  | m + 1, i, acc, h, hi, hl, ha => by
    rw [r13Encode_loop3_succ]
    unfold r13Encode_l3
    by_cases c : i < B.length
    · have hle : i + 6 ≤ B.length := by omega
      obtain ⟨q, rfl⟩ : ∃ q, n = q + 7 := ⟨n - 7, by omega⟩
      have e1 := enc4 (q + 7) q B i acc hle (by omega) h2
      have p0 : ∀ j (h : i + j < B.length), B[i + j] < 2 := fun j h => h2 _ (List.getElem_mem h)
      have q0 := p0 0 (by omega); have q1 := p0 1 (by omega); have q2 := p0 2 (by omega); have q3 := p0 3 (by omega); have q4 := p0 4 (by omega); have q5 := p0 5 (by omega)
      have hd : B.drop i = B[i + 0]'(by omega) :: B[i + 1]'(by omega) :: B[i + 2]'(by omega) :: B[i + 3]'(by omega) :: B[i + 4]'(by omega) :: B[i + 5]'(by omega) :: B.drop (i + 6) := by
        rw [List.drop_eq_getElem_cons (i := i) (by omega), List.drop_eq_getElem_cons (i := i + 1) (by omega), List.drop_eq_getElem_cons (i := i + 1 + 1) (by omega), List.drop_eq_getElem_cons (i := i + 1 + 1 + 1) (by omega), List.drop_eq_getElem_cons (i := i + 1 + 1 + 1 + 1) (by omega), List.drop_eq_getElem_cons (i := i + 1 + 1 + 1 + 1 + 1) (by omega)]
        rfl
      rw [hd]
      generalize B[i + 0]'(by omega) = x0 at *
      generalize B[i + 1]'(by omega) = x1 at *
      generalize B[i + 2]'(by omega) = x2 at *
      generalize B[i + 3]'(by omega) = x3 at *
      generalize B[i + 4]'(by omega) = x4 at *
      generalize B[i + 5]'(by omega) = x5 at *
      have hv : v6 x0 x1 x2 x3 x4 x5 < 64 := by unfold v6; omega
      have hs := sAt_sg hv
      unfold sgT at hs
      have ih := enc3 (q + 7) hn B hB h6 h2 m (i + 6) (acc ++ [(((sg (v6 x0 x1 x2 x3 x4 x5)).toNat : Nat) : Int)]) (by omega) (by omega) hle (by simp; omega)
      have w : IntKind.wrap .i64 ((i : Int) + (6 : Int)) = ((i + 6 : Nat) : Int) := by rw [wrap64 (by omega) (by omega)]; rfl
      rw [intsN_length, decide_eq_true (by omega), cond_true, e1, Option.bind_some]
      show ((sAt _ ((v6 x0 x1 x2 x3 x4 x5 : Nat) : Int)).bind fun (c20 : Int) => (appO 1 acc ([c20] : List (Int))).bind fun (l21 : List (Int)) => letO (IntKind.wrap .i64 ((i : Int) + (6 : Int))) fun (n22 : Int) => r13Encode_loop3 (q + 7) m n22 (intsN B) l21) = _
      rw [hs, Option.bind_some, app_le (by simp; omega), Option.bind_some, w, letO_some, ih, List.append_assoc]
      rfl
    · obtain rfl : i = B.length := by omega
      rw [intsN_length, decide_eq_false (by omega), cond_false, List.drop_length]
      show _ = some ((((), ()), ((), (acc ++ [], ()))))
      rw [List.append_nil]
def ps (l : Nat) : Nat := (4 - l % 4) % 4
theorem enc5 (n : Nat) : ∀ (m : Nat) (acc : List Int), ps acc.length < m → acc.length ≤ 100000 → r13Encode_loop5 n m acc = some ((((), ()), ((), (acc ++ List.replicate (ps acc.length) 61, ()))))
  | 0, acc, h, _ => by omega
  | m + 1, acc, h, ha => by
    rw [r13Encode_loop5_succ]
    unfold r13Encode_l5
    have hr : remO ((acc.length : Nat) : Int) (4 : Int) = some ((acc.length % 4 : Nat) : Int) := rem_nat (k := 4) (by decide)
    rw [hr, Option.bind_some]
    unfold ps at h ⊢
    by_cases c : acc.length % 4 = 0
    · rw [c, decide_eq_true (show ((0 : Nat) : Int) = 0 from rfl), Bool.not_true, cond_false]
      show _ = some ((((), ()), ((), (acc ++ [], ()))))
      rw [List.append_nil]
    · rw [decide_eq_false (by omega), Bool.not_false, cond_true, app_le (by simp; omega), Option.bind_some]
      have hl : (acc ++ [(61 : Int)]).length = acc.length + 1 := by simp
      have ih := enc5 n m (acc ++ [61]) (by unfold ps; rw [hl]; omega) (by rw [hl]; omega)
      unfold ps at ih
      rw [hl] at ih
      show r13Encode_loop5 n m (acc ++ [61]) = _
      rw [ih, List.append_assoc]
      have e : (4 - acc.length % 4) % 4 = (4 - (acc.length + 1) % 4) % 4 + 1 := by omega
      rw [e, List.replicate_succ]
      rfl
theorem bitsC_two (c : UInt8) : ∀ x ∈ bitsC c, x < 2 := fun x hx => by
  unfold bitsC at hx
  simp only [List.mem_cons, List.not_mem_nil, or_false] at hx
  rcases hx with rfl | rfl | rfl | rfl | rfl | rfl | rfl | rfl <;> exact Nat.mod_lt _ (by decide)
theorem bitsS_two (s : List UInt8) : ∀ x ∈ bitsS s, x < 2 := fun x hx => by
  unfold bitsS at hx
  obtain ⟨c, _, h⟩ := List.mem_flatMap.1 hx
  exact bitsC_two c x h
theorem bitsS_len (s : List UInt8) : (bitsS s).length = 8 * s.length := by
  induction s with
  | nil => rfl
  | cons a t ih => unfold bitsS at ih ⊢; rw [List.flatMap_cons, List.length_append, ih, List.length_cons]; show 8 + _ = _; omega
theorem hi6 : ∀ a : Fin 256, v6 (a.val / 2 ^ 7 % 2) (a.val / 2 ^ 6 % 2) (a.val / 2 ^ 5 % 2) (a.val / 2 ^ 4 % 2) (a.val / 2 ^ 3 % 2) (a.val / 2 ^ 2 % 2) = a.val / 4 := by decide +kernel
theorem lo6 : ∀ a : Fin 256, v6 (a.val / 2 ^ 5 % 2) (a.val / 2 ^ 4 % 2) (a.val / 2 ^ 3 % 2) (a.val / 2 ^ 2 % 2) (a.val / 2 ^ 1 % 2) (a.val / 2 ^ 0 % 2) = a.val % 64 := by decide +kernel
theorem lo2 : ∀ a : Fin 256, 2 * (a.val / 2 ^ 1 % 2) + a.val / 2 ^ 0 % 2 = a.val % 4 := by decide +kernel
theorem hi4 : ∀ a : Fin 256, 2 * (2 * (2 * (a.val / 2 ^ 7 % 2) + a.val / 2 ^ 6 % 2) + a.val / 2 ^ 5 % 2) + a.val / 2 ^ 4 % 2 = a.val / 16 := by decide +kernel
theorem lo4 : ∀ a : Fin 256, 2 * (2 * (2 * (a.val / 2 ^ 3 % 2) + a.val / 2 ^ 2 % 2) + a.val / 2 ^ 1 % 2) + a.val / 2 ^ 0 % 2 = a.val % 16 := by decide +kernel
theorem hi2 : ∀ a : Fin 256, 2 * (a.val / 2 ^ 7 % 2) + a.val / 2 ^ 6 % 2 = a.val / 64 := by decide +kernel
theorem mid24 (a b : UInt8) : v6 (a.toNat / 2 ^ 1 % 2) (a.toNat / 2 ^ 0 % 2) (b.toNat / 2 ^ 7 % 2) (b.toNat / 2 ^ 6 % 2) (b.toNat / 2 ^ 5 % 2) (b.toNat / 2 ^ 4 % 2) = a.toNat % 4 * 16 + b.toNat / 16 := by
  have h1 := lo2 ⟨a.toNat, UInt8.toNat_lt a⟩
  have h2 := hi4 ⟨b.toNat, UInt8.toNat_lt b⟩
  simp only at h1 h2
  rw [← h1, ← h2]
  unfold v6
  omega
theorem mid42 (a b : UInt8) : v6 (a.toNat / 2 ^ 3 % 2) (a.toNat / 2 ^ 2 % 2) (a.toNat / 2 ^ 1 % 2) (a.toNat / 2 ^ 0 % 2) (b.toNat / 2 ^ 7 % 2) (b.toNat / 2 ^ 6 % 2) = a.toNat % 16 * 4 + b.toNat / 64 := by
  have h1 := lo4 ⟨a.toNat, UInt8.toNat_lt a⟩
  have h2 := hi2 ⟨b.toNat, UInt8.toNat_lt b⟩
  simp only at h1 h2
  rw [← h1, ← h2]
  unfold v6
  omega
theorem end2 (a : UInt8) : v6 (a.toNat / 2 ^ 1 % 2) (a.toNat / 2 ^ 0 % 2) 0 0 0 0 = a.toNat % 4 * 16 := by
  have h1 := lo2 ⟨a.toNat, UInt8.toNat_lt a⟩
  simp only at h1
  rw [← h1]
  unfold v6
  omega
theorem end4 (a : UInt8) : v6 (a.toNat / 2 ^ 3 % 2) (a.toNat / 2 ^ 2 % 2) (a.toNat / 2 ^ 1 % 2) (a.toNat / 2 ^ 0 % 2) 0 0 = a.toNat % 16 * 4 := by
  have h1 := lo4 ⟨a.toNat, UInt8.toNat_lt a⟩
  simp only at h1
  rw [← h1]
  unfold v6
  omega
theorem hi6' (a : UInt8) : v6 (a.toNat / 2 ^ 7 % 2) (a.toNat / 2 ^ 6 % 2) (a.toNat / 2 ^ 5 % 2) (a.toNat / 2 ^ 4 % 2) (a.toNat / 2 ^ 3 % 2) (a.toNat / 2 ^ 2 % 2) = a.toNat / 4 := hi6 ⟨a.toNat, UInt8.toNat_lt a⟩
theorem lo6' (a : UInt8) : v6 (a.toNat / 2 ^ 5 % 2) (a.toNat / 2 ^ 4 % 2) (a.toNat / 2 ^ 3 % 2) (a.toNat / 2 ^ 2 % 2) (a.toNat / 2 ^ 1 % 2) (a.toNat / 2 ^ 0 % 2) = a.toNat % 64 := lo6 ⟨a.toNat, UInt8.toNat_lt a⟩
def E6 (s : List UInt8) : List UInt8 := grpS (bitsS s ++ List.replicate (zs (8 * s.length)) 0)
theorem E6_enc : ∀ s : List UInt8, E6 s ++ List.replicate (ps (E6 s).length) 61 = encS s
  | a :: b :: c :: r => by
    have ih := E6_enc r
    have e : E6 (a :: b :: c :: r) = sg (a.toNat / 4) :: sg (a.toNat % 4 * 16 + b.toNat / 16) :: sg (b.toNat % 16 * 4 + c.toNat / 64) :: sg (c.toNat % 64) :: E6 r := by
      unfold E6
      have hz : zs (8 * (a :: b :: c :: r).length) = zs (8 * r.length) := by unfold zs; simp only [List.length_cons]; omega
      have hb : bitsS (a :: b :: c :: r) = bitsC a ++ (bitsC b ++ (bitsC c ++ bitsS r)) := by unfold bitsS; simp [List.flatMap_cons]
      rw [hz, hb]
      show sg (v6 _ _ _ _ _ _) :: sg (v6 _ _ _ _ _ _) :: sg (v6 _ _ _ _ _ _) :: sg (v6 _ _ _ _ _ _) :: grpS (bitsS r ++ List.replicate (zs (8 * r.length)) 0) = _
      rw [hi6' a, mid24 a b, mid42 b c, lo6' c]
    rw [e]
    have hp : ps (sg (a.toNat / 4) :: sg (a.toNat % 4 * 16 + b.toNat / 16) :: sg (b.toNat % 16 * 4 + c.toNat / 64) :: sg (c.toNat % 64) :: E6 r).length = ps (E6 r).length := by unfold ps; simp only [List.length_cons]; omega
    rw [hp]
    show _ :: _ :: _ :: _ :: (E6 r ++ List.replicate (ps (E6 r).length) 61) = _
    rw [ih]
    rfl
  | [a, b] => by
    have e : E6 [a, b] = [sg (a.toNat / 4), sg (a.toNat % 4 * 16 + b.toNat / 16), sg (b.toNat % 16 * 4)] := by
      unfold E6
      rw [show ([a, b] : List UInt8).length = 2 from rfl, show zs (8 * 2) = 2 from rfl]
      show [sg (v6 _ _ _ _ _ _), sg (v6 _ _ _ _ _ _), sg (v6 _ _ _ _ 0 0)] = _
      rw [hi6' a, mid24 a b, end4 b]
    rw [e]
    rfl
  | [a] => by
    have e : E6 [a] = [sg (a.toNat / 4), sg (a.toNat % 4 * 16)] := by
      unfold E6
      rw [show ([a] : List UInt8).length = 1 from rfl, show zs (8 * 1) = 4 from rfl]
      show [sg (v6 _ _ _ _ _ _), sg (v6 _ _ 0 0 0 0)] = _
      rw [hi6' a, end2 a]
    rw [e]
    rfl
  | [] => rfl
theorem grp_len : ∀ (m : Nat) (B : List Nat), B.length ≤ m → (grpS B).length ≤ B.length
  | 0, B, h => by cases B with | nil => exact Nat.le_refl _ | cons _ _ => simp at h
  | m + 1, B, h => by
    unfold grpS
    split
    · rename_i a b c d e f r
      have := grp_len m r (by simp only [List.length_cons] at h; omega)
      simp only [List.length_cons] at this ⊢
      omega
    · exact Nat.zero_le _
theorem r13Encode_spec (n : Nat) (hn : 10000 ≤ n) (s : List UInt8) (hs : s.length ≤ 5000) : r13Encode_t n s = some (encS s) := by
  unfold r13Encode_t
  have e0 := enc0 n (by omega) s hs n 0 [] (by omega) (Nat.zero_le _) (Nat.le_refl _)
  rw [show ((0 : Nat) : Int) = (0 : Int) from rfl, List.drop_zero, List.nil_append] at e0
  have hl := bitsS_len s
  have hil : (intsN (bitsS s)).length = 8 * s.length := by rw [intsN_length, hl]
  have hz : zs (8 * s.length) < 6 := Nat.mod_lt _ (by decide)
  have e2 := enc2 n n (intsN (bitsS s)) (by rw [hil]; omega) (by rw [hil]; omega)
  rw [hil] at e2
  have hB : intsN (bitsS s) ++ List.replicate (zs (8 * s.length)) 0 = intsN (bitsS s ++ List.replicate (zs (8 * s.length)) 0) := by rw [intsN_app]; simp [intsN]
  rw [hB] at e2
  have hBl : (bitsS s ++ List.replicate (zs (8 * s.length)) 0).length = 8 * s.length + zs (8 * s.length) := by rw [List.length_append, hl, List.length_replicate]
  have h6 : (8 * s.length + zs (8 * s.length)) % 6 = 0 := by unfold zs; omega
  have e3 := enc3 n (by omega) (bitsS s ++ List.replicate (zs (8 * s.length)) 0) (by rw [hBl]; omega) (by rw [hBl]; exact h6) (fun x hx => by
    rcases List.mem_append.1 hx with hx | hx
    · exact bitsS_two s x hx
    · rw [(List.mem_replicate.1 hx).2]; decide) n 0 [] (by rw [hBl]; omega) rfl (Nat.zero_le _) (Nat.le_refl _)
  rw [show ((0 : Nat) : Int) = (0 : Int) from rfl, List.drop_zero, List.nil_append] at e3
  have hg := grp_len _ (bitsS s ++ List.replicate (zs (8 * s.length)) 0) (Nat.le_refl _)
  rw [hBl] at hg
  have hE : grpS (bitsS s ++ List.replicate (zs (8 * s.length)) 0) = E6 s := rfl
  rw [hE] at e3 hg
  have hp : ps (E6 s).length < 4 := Nat.mod_lt _ (by decide)
  have e5 := enc5 n n (intsB (E6 s)) (by rw [intsB_len]; omega) (by rw [intsB_len]; omega)
  rw [intsB_len] at e5
  have h61 : intsB (E6 s) ++ List.replicate (ps (E6 s).length) 61 = intsB (encS s) := by rw [← E6_enc s, intsB_app]; simp [intsB]
  rw [h61] at e5
  rw [e0, Option.bind_some]
  show ((r13Encode_loop2 n n (intsN (bitsS s))).bind fun (o12 : (Unit × (Unit)) × (Unit) × ((List (Int)) × (Unit))) => (r13Encode_loop3 n n (0 : Int) o12.2.2.1 []).bind fun (o23 : (Unit × (Unit)) × (Unit) × ((List (Int)) × (Unit))) => (r13Encode_loop5 n n o23.2.2.1).bind fun (o26 : (Unit × (Unit)) × (Unit) × ((List (Int)) × (Unit))) => some (List.map (fun n : Int => UInt8.ofNat n.toNat) o26.2.2.1)) = _
  rw [e2, Option.bind_some]
  show ((r13Encode_loop3 n n (0 : Int) (intsN (bitsS s ++ List.replicate (zs (8 * s.length)) 0)) []).bind fun (o23 : (Unit × (Unit)) × (Unit) × ((List (Int)) × (Unit))) => (r13Encode_loop5 n n o23.2.2.1).bind fun (o26 : (Unit × (Unit)) × (Unit) × ((List (Int)) × (Unit))) => some (List.map (fun n : Int => UInt8.ofNat n.toNat) o26.2.2.1)) = _
  rw [e3, Option.bind_some]
  show ((r13Encode_loop5 n n (intsB (E6 s))).bind fun (o26 : (Unit × (Unit)) × (Unit) × ((List (Int)) × (Unit))) => some (List.map (fun n : Int => UInt8.ofNat n.toNat) o26.2.2.1)) = _
  rw [e5, Option.bind_some]
  show some (List.map (fun n : Int => UInt8.ofNat n.toNat) (intsB (encS s))) = _
  rw [intsB_back]
/-! Decode, Size, the law -/
theorem nul_drop (c : UInt8) {j : Nat} (h : j < sgT.length) : nuL c (sgT.drop j) j = if sg j = c then some j else nuL c (sgT.drop (j + 1)) (j + 1) := by
  rw [List.drop_eq_getElem_cons h]
  have e : sgT[j] = sg j := by unfold sg; rw [List.getD_eq_getElem?_getD, List.getElem?_eq_getElem h]; rfl
  rw [show nuL c (sgT[j] :: sgT.drop (j + 1)) j = if sgT[j] = c then some j else nuL c (sgT.drop (j + 1)) (j + 1) from rfl, e]
theorem number_loop (n : Nat) (c : UInt8) : ∀ (m j : Nat), 64 - j < m → j ≤ 64 → r13number_loop0 n m ((c.toNat : Nat) : Int) (j : Int) = match nuL c (sgT.drop j) j with | some k => some (Sum.inl (((k : Int), ()), ((), ()))) | none => some (Sum.inr (((), ((), ()))))
  | 0, j, h, _ => by omega
  | m + 1, j, h, hj => by
    rw [r13number_loop0_succ]
    unfold r13number_l0
    by_cases q : j < 64
    · have hs := sAt_sg q
      unfold sgT at hs
      rw [decide_eq_true (by omega), cond_true, hs, Option.bind_some, nul_drop c (show j < sgT.length from q)]
      by_cases d : sg j = c
      · rw [decide_eq_true (by rw [d]), cond_true, if_pos d]
      · rw [decide_eq_false (fun e => d (UInt8.toNat.inj (by omega))), cond_false, if_neg d, wrap_succ (by omega), letO_some]
        exact number_loop n c m (j + 1) (by omega) (by omega)
    · obtain rfl : j = 64 := by omega
      rw [decide_eq_false (by decide), cond_false]
      rfl
theorem number_spec (n : Nat) (hn : 100 ≤ n) (c : UInt8) : r13number_t n ((c.toNat : Nat) : Int) = some (match nu c with | some k => (k : Int) | none => -1) := by
  unfold r13number_t
  have h := number_loop n c n 0 (by omega) (by decide)
  rw [show ((0 : Nat) : Int) = (0 : Int) from rfl, List.drop_zero] at h
  rw [h]
  unfold nu
  cases nuL c sgT 0 with
  | some k => rfl
  | none => rfl
theorem decN_len : ∀ (t : List UInt8) (N b : Nat) (l : List UInt8), decN t N b = some l → l.length ≤ t.length
  | [], N, b, l, h => by
    obtain rfl : [] = l := Option.some.inj h
    exact Nat.le_refl _
  | c :: t, N, b, l, h => by
    unfold decN at h
    split at h
    · obtain rfl : [] = l := Option.some.inj h
      exact Nat.zero_le _
    · split at h
      · cases h
      · split at h
        · obtain ⟨l', h1, rfl⟩ := Option.map_eq_some_iff.1 h
          have := decN_len t _ _ l' h1
          simp only [List.length_cons]
          omega
        · have := decN_len t _ _ l h
          simp only [List.length_cons]
          omega
theorem dec_loop (n : Nat) (hn : 100 ≤ n) (t : List UInt8) (ht : t.length ≤ 5000) : ∀ (m i N b : Nat) (acc : List Int), t.length - i < m → i ≤ t.length → N < 65536 → b < 8 → acc.length ≤ i →
    r13Decode_loop0 n m t (N : Int) (b : Int) (i : Int) acc = match decN (t.drop i) N b with | none => some (Sum.inl ((([] : List UInt8), (false, ())), ((), ()))) | some l => some (Sum.inr (((t, ((), ())), ((), (acc ++ intsB l, ())))))
  | 0, i, N, b, acc, h, _, _, _, _ => by omega
  | m + 1, i, N, b, acc, h, hi, hN, hb, ha => by
    rw [r13Decode_loop0_succ]
    unfold r13Decode_l0
    by_cases c : i < t.length
    · rw [decide_eq_true (by omega), cond_true, sAt_lt c, Option.bind_some, List.drop_eq_getElem_cons c]
      unfold decN
      by_cases d : t[i] = 61
      · rw [if_pos d, d, decide_eq_true (show (((61 : UInt8).toNat : Nat) : Int) = 61 from rfl), Bool.not_true, cond_false]
        show _ = some (Sum.inr (((t, ((), ())), ((), (acc ++ [], ())))))
        rw [List.append_nil]
      · have d' : ¬ ((t[i].toNat : Nat) : Int) = 61 := fun e => d (UInt8.toNat.inj (by show t[i].toNat = 61; omega))
        rw [if_neg d, decide_eq_false d', Bool.not_false, cond_true, Option.bind_some, number_spec n hn, Option.bind_some]
        cases hq : nu t[i] with
        | none =>
          show (bif decide ((-1 : Int) < 0) then _ else _) = _
          rw [decide_eq_true (by decide), cond_true]
        | some k =>
          have hk := nu_small hq
          have w1 : IntKind.wrap .i64 ((N : Int) * (64 : Int)) = ((N * 64 : Nat) : Int) := by rw [wrap64 (by omega) (by omega)]; rfl
          have w2 : IntKind.wrap .i64 (((N * 64 : Nat) : Int) + (k : Int)) = ((N * 64 + k : Nat) : Int) := wrap_add (by omega) (by omega)
          have w3 : andI .i64 ((N * 64 + k : Nat) : Int) (65535 : Int) = (((N * 64 + k) % 65536 : Nat) : Int) := and_low 16 (by decide) (by omega)
          have w4 : IntKind.wrap .i64 ((b : Int) + (6 : Int)) = ((b + 6 : Nat) : Int) := by rw [wrap64 (by omega) (by omega)]; rfl
          show (bif decide ((k : Int) < 0) then _ else _) = _
          rw [decide_eq_false (by omega), cond_false, w1, letO_some, w2, letO_some, w3, letO_some, w4, letO_some]
          have hM : (N * 64 + k) % 65536 < 65536 := Nat.mod_lt _ (by decide)
          simp only
          generalize (N * 64 + k) % 65536 = M at *
          by_cases e8 : 8 ≤ b + 6
          · have w5 : IntKind.wrap .i64 (((b + 6 : Nat) : Int) - (8 : Int)) = ((b + 6 - 8 : Nat) : Int) := by rw [wrap64 (by omega) (by omega)]; omega
            have hd : M / 2 ^ (b + 6 - 8) < 2 ^ 32 := Nat.lt_of_le_of_lt (Nat.div_le_self _ _) (by omega)
            have w6 : andI .i64 ((M / 2 ^ (b + 6 - 8) : Nat) : Int) (255 : Int) = ((M / 2 ^ (b + 6 - 8) % 256 : Nat) : Int) := and_low 8 (by decide) hd
            have hx : M / 2 ^ (b + 6 - 8) % 256 < 256 := Nat.mod_lt _ (by decide)
            rw [if_pos (show b + 6 ≥ 8 from e8), decide_eq_true (by omega), cond_true, w5, letO_some, shr64 (by omega), Option.bind_some, w6, letO_some]
            generalize M / 2 ^ (b + 6 - 8) % 256 = x at *
            have w7 : IntKind.wrap .u8 ((x : Nat) : Int) = ((x : Nat) : Int) := by show ((x : Nat) : Int) % (2 ^ 8) = _; omega
            rw [w7, letO_some, app_le (by simp; omega), Option.bind_some, wrap_succ (by omega), letO_some]
            have ih := dec_loop n hn t ht m (i + 1) M (b + 6 - 8) (acc ++ [(x : Int)]) (by omega) (by omega) hM (by omega) (by simp; omega)
            show r13Decode_loop0 n m t (M : Int) ((b + 6 - 8 : Nat) : Int) ((i + 1 : Nat) : Int) (acc ++ [(x : Int)]) = _
            rw [ih]
            cases decN (t.drop (i + 1)) M (b + 6 - 8) with
            | none => rfl
            | some l =>
              show some (Sum.inr (((t, ((), ())), ((), (acc ++ [(x : Int)] ++ intsB l, ()))))) = some (Sum.inr (((t, ((), ())), ((), (acc ++ intsB (UInt8.ofNat x :: l), ())))))
              have e9 : intsB (UInt8.ofNat x :: l) = [(x : Int)] ++ intsB l := by
                have h0 : (UInt8.ofNat x).toNat = x := by rw [UInt8.toNat_ofNat']; omega
                show (((UInt8.ofNat x).toNat : Nat) : Int) :: intsB l = (x : Int) :: intsB l
                rw [h0]
              rw [e9, List.append_assoc]
          · rw [if_neg (show ¬ b + 6 ≥ 8 from e8), decide_eq_false (by omega), cond_false, wrap_succ (by omega), letO_some]
            exact dec_loop n hn t ht m (i + 1) M (b + 6) acc (by omega) (by omega) hM (by omega) (by omega)
    · obtain rfl : i = t.length := by omega
      rw [decide_eq_false (by omega), cond_false, List.drop_length]
      show _ = some (Sum.inr (((t, ((), ())), ((), (acc ++ [], ())))))
      rw [List.append_nil]
theorem r13Decode_spec (n : Nat) (hn : 10000 ≤ n) (t : List UInt8) (ht : t.length ≤ 5000) : r13Decode_t n t = some (decS t) := by
  unfold r13Decode_t decS
  have h := dec_loop n (by omega) t ht n 0 0 0 [] (by omega) (Nat.zero_le _) (by decide) (by decide) (Nat.zero_le _)
  rw [show ((0 : Nat) : Int) = (0 : Int) from rfl, List.drop_zero] at h
  rw [h]
  cases hd : decN t 0 0 with
  | none => rfl
  | some l =>
    have hl := decN_len t 0 0 l hd
    show ((r13Encode_t n (List.map (fun n : Int => UInt8.ofNat n.toNat) (intsB l))).bind fun (r18 : List UInt8) => (bif !decide (r18 = t) then some (([] : List UInt8), false) else some ((List.map (fun n : Int => UInt8.ofNat n.toNat) (intsB l)), true))) = some (if encS l = t then (l, true) else ([], false))
    rw [intsB_back, r13Encode_spec n hn l (by omega), Option.bind_some]
    by_cases c : encS l = t
    · rw [decide_eq_true c, if_pos c]; rfl
    · rw [decide_eq_false c, if_neg c]; rfl
theorem size_same (n : Nat) (x : Int) : ∃ y, fSize13_t n x = some y ∧ r13Size_t n x = some y := by
  by_cases c1 : x < 0
  · refine ⟨-1, ?_, ?_⟩
    · unfold fSize13_t; rw [decide_eq_true c1, cond_true]
    · unfold r13Size_t; rw [decide_eq_true c1, cond_true]
  by_cases c2 : (1099511627776 : Int) < x
  · refine ⟨-1, ?_, ?_⟩
    · unfold fSize13_t; rw [decide_eq_false c1, cond_false, decide_eq_true c2, cond_true]
    · unfold r13Size_t; rw [decide_eq_false c1, cond_false, decide_eq_true c2, cond_true]
  obtain ⟨k, rfl⟩ : ∃ k : Nat, x = (k : Int) := ⟨x.toNat, by omega⟩
  refine ⟨_, Size_spec n k (by omega), ?_⟩
  unfold r13Size_t
  have e2 : IntKind.wrap .i64 ((k : Int) + (2 : Int)) = ((k + 2 : Nat) : Int) := by rw [wrap64 (by omega) (by omega)]; rfl
  have e3 : quoO .i64 ((k + 2 : Nat) : Int) (3 : Int) = some (((k + 2) / 3 : Nat) : Int) := by
    unfold quoO
    rw [if_pos (by decide), show ((k + 2 : Nat) : Int).tdiv 3 = (((k + 2) / 3 : Nat) : Int) from rfl, wrap64 (by omega) (by omega)]
  have e4 : IntKind.wrap .i64 ((((k + 2) / 3 : Nat) : Int) * (4 : Int)) = (((k + 2) / 3 * 4 : Nat) : Int) := by rw [wrap64 (by omega) (by omega)]; rfl
  rw [decide_eq_false c1, cond_false, decide_eq_false c2, cond_false, e2, letO_some, e3, Option.bind_some, e4, letO_some]
theorem lBTells_n (s t : List UInt8) (x : Int) (n : Nat) (hn : 10000 ≤ n) : lBTells_t n s t x = some true := by
  unfold lBTells_t
  rw [live13]
  by_cases c1 : 4000 < s.length
  · rw [decide_eq_true (by omega), cond_true]; rfl
  by_cases c2 : 4000 < t.length
  · rw [decide_eq_false (by omega), cond_false, decide_eq_true (by omega), cond_true]; rfl
  obtain ⟨y, h1, h2⟩ := size_same n x
  rw [decide_eq_false (by omega), cond_false, decide_eq_false (by omega), cond_false, fDec13_some (by omega), Option.bind_some, r13Decode_spec n hn t (by omega), Option.bind_some, fEnc13_some (by omega), Option.bind_some, r13Encode_spec n hn s (by omega), Option.bind_some, decide_eq_true rfl, cond_true, decide_eq_true rfl, cond_true, decide_eq_true rfl, cond_true, h1, Option.bind_some, h2, Option.bind_some, decide_eq_true rfl, cond_true]
  rfl
theorem lBTells_true (s t : List UInt8) (x : Int) : lBTells_t 20000 s t x = some true := lBTells_n s t x 20000 (by decide)
end YtngbpbncipjimaaDoor.AM
end Go.Proofs
