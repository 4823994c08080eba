/- Layer 7: runs of bytes of a kind: what they come to. -/
import Derived.Test.YtgihkohggalefabGreatDoorVerG1
import Derived.Test.YtgihkohggalefabGreatDoorPure
namespace Go.Proofs.YtgihkohggalefabGreatDoor.AM
open Go.RowKit
set_option linter.unusedVariables false
set_option linter.unusedSimpArgs false
theorem digit_ok (n : Nat) (c : UInt8) : isDigit_t n ((c.toNat : Nat) : Int) = some (isDig c) := by
  unfold isDigit_t isDig
  have h1 : decide ((48 : Int) ≤ ((c.toNat : Nat) : Int)) = decide (48 ≤ c.toNat) := decide_eq_decide.2 (by omega)
  have h2 : decide (((c.toNat : Nat) : Int) ≤ (57 : Int)) = decide (c.toNat ≤ 57) := decide_eq_decide.2 (by omega)
  rw [h1, h2]
  cases decide (48 ≤ c.toNat) <;> cases decide (c.toNat ≤ 57) <;> rfl
theorem sign_ok (n : Nat) (c : UInt8) : isSign_t n ((c.toNat : Nat) : Int) = some (isSg c) := by
  unfold isSign_t isSg
  have h1 : decide ((97 : Int) ≤ ((c.toNat : Nat) : Int)) = decide (97 ≤ c.toNat) := decide_eq_decide.2 (by omega)
  have h2 : decide (((c.toNat : Nat) : Int) ≤ (122 : Int)) = decide (c.toNat ≤ 122) := decide_eq_decide.2 (by omega)
  have h3 : decide ((65 : Int) ≤ ((c.toNat : Nat) : Int)) = decide (65 ≤ c.toNat) := decide_eq_decide.2 (by omega)
  have h4 : decide (((c.toNat : Nat) : Int) ≤ (90 : Int)) = decide (c.toNat ≤ 90) := decide_eq_decide.2 (by omega)
  have h5 : decide (((c.toNat : Nat) : Int) = (45 : Int)) = decide (c.toNat = 45) := decide_eq_decide.2 (by omega)
  rw [h1, h2, h3, h4, h5, digit_ok]
  cases decide (97 ≤ c.toNat) <;> cases decide (c.toNat ≤ 122) <;> cases decide (65 ≤ c.toNat) <;> cases decide (c.toNat ≤ 90) <;> cases isDig c <;> rfl
theorem isRunS_loop (n : Nat) (s : List UInt8) (hL : s.length ≤ 1000000) : ∀ m j : Nat, j ≤ s.length → s.length - j < m → isRunS_loop0 n m s ((s.length : Nat) : Int) (j : Int) = some (if (s.drop j).all isSg = true then Sum.inr ((s, ()), ((), ())) else Sum.inl ((false, ()), ((), ())))
  | 0, j, _, h => absurd h (Nat.not_lt_zero _)
  | m + 1, j, hj, h => by
    rw [isRunS_loop0_succ]
    unfold isRunS_l0
    by_cases c0 : j < s.length
    · have c0' : ((j : Nat) : Int) < ((s.length : Nat) : Int) := by omega
      have ih := isRunS_loop n s hL m (j + 1) (by omega) (by omega)
      have hd : s.drop j = s[j] :: s.drop (j + 1) := (List.drop_eq_getElem_cons c0)
      simp only [c0', decide_true, cond_true, sAt_lt c0, Option.bind_some, sign_ok, letO, wrap_succ (show j < 4611686018427387904 by omega), ih, hd, List.all_cons]
      cases isSg s[j] <;> simp
    · have c0' : ¬ ((j : Nat) : Int) < ((s.length : Nat) : Int) := by omega
      have : s.drop j = [] := List.drop_eq_nil_of_le (by omega)
      simp [c0', this]
theorem isRunS_spec (n : Nat) (s : List UInt8) (hL : s.length ≤ 1000000) (hn : s.length < n) : isRunS_t n s () = some (s.all isSg && !decide (s = [])) := by
  unfold isRunS_t
  have := isRunS_loop n s hL n 0 (Nat.zero_le _) (by omega)
  rw [show ((0 : Nat) : Int) = (0 : Int) from rfl] at this
  rw [this, List.drop_zero]
  cases s.all isSg <;> rfl
theorem isRunD_loop (n : Nat) (s : List UInt8) (hL : s.length ≤ 1000000) : ∀ m j : Nat, j ≤ s.length → s.length - j < m → isRunD_loop0 n m s ((s.length : Nat) : Int) (j : Int) = some (if (s.drop j).all isDig = true then Sum.inr ((s, ()), ((), ())) else Sum.inl ((false, ()), ((), ())))
  | 0, j, _, h => absurd h (Nat.not_lt_zero _)
  | m + 1, j, hj, h => by
    rw [isRunD_loop0_succ]
    unfold isRunD_l0
    by_cases c0 : j < s.length
    · have c0' : ((j : Nat) : Int) < ((s.length : Nat) : Int) := by omega
      have ih := isRunD_loop n s hL m (j + 1) (by omega) (by omega)
      have hd : s.drop j = s[j] :: s.drop (j + 1) := (List.drop_eq_getElem_cons c0)
      simp only [c0', decide_true, cond_true, sAt_lt c0, Option.bind_some, digit_ok, letO, wrap_succ (show j < 4611686018427387904 by omega), ih, hd, List.all_cons]
      cases isDig s[j] <;> simp
    · have c0' : ¬ ((j : Nat) : Int) < ((s.length : Nat) : Int) := by omega
      have : s.drop j = [] := List.drop_eq_nil_of_le (by omega)
      simp [c0', this]
theorem isRunD_spec (n : Nat) (s : List UInt8) (hL : s.length ≤ 1000000) (hn : s.length < n) : isRunD_t n s () = some (s.all isDig && !decide (s = [])) := by
  unfold isRunD_t
  have := isRunD_loop n s hL n 0 (Nat.zero_le _) (by omega)
  rw [show ((0 : Nat) : Int) = (0 : Int) from rfl] at this
  rw [this, List.drop_zero]
  cases s.all isDig <;> rfl
theorem isPart_spec (n : Nat) (s : List UInt8) (hL : s.length ≤ 1000000) (hn : s.length < n) : isPart_t n s = some (isPartS s) := by
  unfold isPart_t; rw [isRunS_spec n s hL hn]; rfl
theorem isNumber_spec (n : Nat) (s : List UInt8) (hL : s.length ≤ 1000000) (hn : s.length < n) : isNumber_t n s = some (isNumS s) := by
  unfold isNumber_t; rw [isRunD_spec n s hL hn]; rfl
theorem isPre_spec (n : Nat) (s : List UInt8) (hL : s.length ≤ 1000000) (hn : s.length < n) : isPrePart_t n s = some (isPreS s) := by
  unfold isPrePart_t isPreS
  rw [isPart_spec n s hL hn, isNumber_spec n s hL hn]
  simp only [Option.bind_some]
  cases hp : isPartS s with
  | false => rfl
  | true =>
    cases s with
    | nil => simp [isPartS] at hp
    | cons c r =>
      have h0 : sAt (c :: r) (0 : Int) = some ((c.toNat : Nat) : Int) := sAt_lt (s := c :: r) (j := 0) (by simp)
      have h1 : decide (((c.toNat : Nat) : Int) = (48 : Int)) = decide ((c :: r).head? = some 48) := decide_eq_decide.2 (by
        simp only [List.head?_cons, Option.some.injEq]
        constructor
        · intro h; exact UInt8.toNat_inj.1 (by have e48 : (48 : UInt8).toNat = 48 := rfl; rw [e48]; omega)
        · rintro rfl; rfl)
      simp only [cond_true, h0, Option.bind_some, h1, Bool.true_and]
      cases decide (c :: r = [48]) <;> cases decide ((c :: r).head? = some 48) <;> cases isNumS (c :: r) <;> rfl
end Go.Proofs.YtgihkohggalefabGreatDoor.AM
