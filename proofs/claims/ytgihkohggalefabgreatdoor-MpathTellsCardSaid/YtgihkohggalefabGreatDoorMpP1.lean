/- Layer 8: the last place of a byte, a path's part, whether a part tells a major: what they come to. -/
import Derived.Test.YtgihkohggalefabGreatDoorMpG1
import Derived.Test.YtgihkohggalefabGreatDoorVerP0
namespace Go.Proofs.YtgihkohggalefabGreatDoor.AM
open Go.RowKit
set_option linter.unusedVariables false
set_option linter.unusedSimpArgs false
theorem take_succ_rev (s : List UInt8) (j : Nat) (h : j < s.length) : (s.take (j + 1)).reverse = s[j] :: (s.take j).reverse := by
  rw [List.take_succ_eq_append_getElem h]; simp
theorem LastI_loop (n : Nat) (c : UInt8) (s : List UInt8) (hL : s.length ≤ 1000000) : ∀ m j : Nat, j ≤ s.length → j < m → LastI_loop0 n m s ((c.toNat : Nat) : Int) ((j : Int) - 1) = some (if lastR c (s.take j).reverse = -1 then Sum.inr ((), ((), ())) else Sum.inl ((lastR c (s.take j).reverse, ()), ((), ())))
  | 0, j, _, h => absurd h (Nat.not_lt_zero _)
  | m + 1, 0, _, _ => by
    rw [LastI_loop0_succ]
    unfold LastI_l0
    simp [lastR]
  | m + 1, j + 1, hj, h => by
    rw [LastI_loop0_succ]
    unfold LastI_l0
    have e1 : ((j + 1 : Nat) : Int) - 1 = ((j : Nat) : Int) := by omega
    have ih := LastI_loop n c s hL m j (by omega) (by omega)
    have w1 : IntKind.wrap .i64 (((j : Nat) : Int) - 1) = ((j : Nat) : Int) - 1 := wrap64 (by omega) (by omega)
    have c0 : (0 : Int) ≤ ((j : Nat) : Int) := by omega
    have d1 : decide (((s[j].toNat : Nat) : Int) = ((c.toNat : Nat) : Int)) = decide (s[j] = c) := decide_eq_decide.2 ⟨fun h => UInt8.toNat_inj.1 (by omega), fun h => by rw [h]⟩
    rw [e1]
    simp only [c0, decide_true, cond_true, sAt_lt (show j < s.length by omega), Option.bind_some, d1, letO, w1, ih, take_succ_rev s j (by omega), lastR]
    by_cases h0 : s[j] = c
    · have : ¬ (((s.take j).reverse.length : Nat) : Int) = -1 := by omega
      have l1 : (s.take j).reverse.length = j := by simp; omega
      simp only [h0, decide_true, cond_true, if_true, this, if_false, l1]
      rw [if_neg (by omega)]
    · simp [h0]
theorem LastI_spec (n : Nat) (c : UInt8) (s : List UInt8) (hL : s.length ≤ 1000000) (hn : s.length < n) : LastI_t n s ((c.toNat : Nat) : Int) = some (lastC c s) := by
  unfold LastI_t
  have := LastI_loop n c s hL n s.length (Nat.le_refl _) hn
  have w1 : IntKind.wrap .i64 (((s.length : Nat) : Int) - 1) = ((s.length : Nat) : Int) - 1 := wrap64 (by omega) (by omega)
  simp only [letO, w1, this, List.take_length]
  unfold lastC
  by_cases h : lastR c s.reverse = -1
  · simp [h]
  · simp [h]
theorem LastB_spec (n : Nat) (s : List UInt8) (hL : s.length ≤ 1000000) (hn : s.length < n) : LastB_t n s (47 : Int) = some (lastC 47 s) := by
  unfold LastB_t
  rw [show (47 : Int) = (((47 : UInt8).toNat : Nat) : Int) from rfl, LastI_spec n 47 s hL hn]; rfl
theorem fSign_spec (n : Nat) (c : UInt8) : fSign_t n ((c.toNat : Nat) : Int) = some (pSign c) := by
  have h : ∀ k : Fin 256, fSign_t 0 ((k.val : Nat) : Int) = some (pSign (UInt8.ofNat k.val)) := by decide +kernel
  have h1 := h ⟨c.toNat, c.toNat_lt⟩
  have e : UInt8.ofNat c.toNat = c := by simp
  rw [e] at h1
  exact h1
theorem fPart_loop (n : Nat) (s : List UInt8) (hL : s.length ≤ 1000000) : ∀ m j : Nat, j ≤ s.length → s.length - j < m → fPart_loop0 n m s ((s.length : Nat) : Int) (j : Int) = some (if (s.drop j).all pSign = true then Sum.inr ((), ((), ())) else Sum.inl ((false, ()), ((), ())))
  | 0, j, _, h => absurd h (Nat.not_lt_zero _)
  | m + 1, j, hj, h => by
    rw [fPart_loop0_succ]
    unfold fPart_l0
    by_cases c0 : j < s.length
    · have c0' : ((j : Nat) : Int) < ((s.length : Nat) : Int) := by omega
      have ih := fPart_loop n s hL m (j + 1) (by omega) (by omega)
      have hd : s.drop j = s[j] :: s.drop (j + 1) := (List.drop_eq_getElem_cons c0)
      simp only [c0', decide_true, cond_true, sAt_lt c0, Option.bind_some, fSign_spec, letO, wrap_succ (show j < 4611686018427387904 by omega), ih, hd, List.all_cons]
      cases pSign s[j] <;> simp
    · have c0' : ¬ ((j : Nat) : Int) < ((s.length : Nat) : Int) := by omega
      have : s.drop j = [] := List.drop_eq_nil_of_le (by omega)
      simp [c0', this]
theorem fPart_spec (n : Nat) (s : List UInt8) (hL : s.length ≤ 1000000) (hn : s.length < n) : fPart_t n s = some (partS s) := by
  unfold fPart_t partS
  have := fPart_loop n s hL n 0 (Nat.zero_le _) (by omega)
  rw [show ((0 : Nat) : Int) = (0 : Int) from rfl] at this
  rw [this, List.drop_zero]
  cases decide (s = []) <;> cases decide (s = [46]) <;> cases decide (s = [46, 46]) <;> cases s.all pSign <;> rfl
theorem CutPre_spec (n : Nat) (s : List UInt8) (hs : s.length ≤ 1000000) : CutPrefix_t n s [118] = some (if s.head? = some 118 then (s.drop 1, true) else (s, false)) := by
  unfold CutPrefix_t CutPrefixI_t HasPrefixI_t
  cases s with
  | nil => rfl
  | cons b r =>
    have h1 : ((List.length ([118] : List UInt8) : Nat) : Int) ≤ ((List.length (b :: r) : Nat) : Int) := by simp; omega
    have h2 : subO (b :: r) (0 : Int) ((List.length ([118] : List UInt8) : Nat) : Int) = some [b] := sub_zero (b := 1) (by simp)
    have h3 : subO (b :: r) ((List.length ([118] : List UInt8) : Nat) : Int) ((List.length (b :: r) : Nat) : Int) = some r := by
      have := sub_le (l := b :: r) (a := 1) (b := (b :: r).length) (by simp) (Nat.le_refl _)
      rw [show ((List.length ([118] : List UInt8) : Nat) : Int) = ((1 : Nat) : Int) from rfl, this]
      simp
    simp only [h1, decide_true, cond_true, h2, Option.bind_some, List.head?_cons, Option.some.injEq, List.drop_succ_cons, List.drop_zero]
    by_cases hb : b = 118
    · simp only [hb, decide_true, cond_true, if_true, Bool.not_true, cond_false] at h3 ⊢
      rw [h3]; rfl
    · have : ¬ [b] = ([118] : List UInt8) := fun h => hb (by simpa using h)
      simp [this, hb]
theorem mTells_spec (n : Nat) (s : List UInt8) (hs : s.length ≤ 1000000) : mTells_t n s = some (tellsS s) := by
  unfold mTells_t tellsS isNumS
  rw [CutPre_spec n s hs]
  by_cases h : s.head? = some 118
  · have hl : (s.drop 1).length ≤ 1000000 := by rw [List.length_drop]; omega
    have ht : trimD_t (s.drop 1) digs = some (Lib.trimS (s.drop 1) digs) := if_pos ⟨rfl, hl⟩
    simp only [h, if_true, Option.bind_some, cond_true, ht, trim_nil, decide_true, Bool.true_and]
    cases decide (s.drop 1 = []) <;> cases (s.drop 1).all isDig <;> rfl
  · simp [h]
end Go.Proofs.YtgihkohggalefabGreatDoor.AM
