/- Layer 7: a number's digits as the document tells them. -/
import Derived.Test.YtgihkohggalefabDoorVerL
import Derived.Test.YtgihkohggalefabDoorVerR
namespace Go.Proofs.YtgihkohggalefabDoor.AM
open Go.RowKit
set_option linter.unusedVariables false
set_option linter.unusedSimpArgs false
theorem itoa_rec {a : Int} (h0 : 0 ≤ a) : Lib.itoa a = if a < 10 then [UInt8.ofNat (48 + a.toNat)] else Lib.itoa (a / 10) ++ [UInt8.ofNat (48 + (a % 10).toNat)] := by
  rw [itoa_dec h0, Lib.decDigits]
  by_cases h : a < 10
  · rw [if_pos h, dif_pos (by omega)]
  · rw [if_neg h, dif_neg (by omega), itoa_dec (by omega)]
    rw [show (a / 10).toNat = a.toNat / 10 from by omega, show (a % 10).toNat = a.toNat % 10 from by omega]
theorem rNumber_spec : ∀ (k : Nat) (a : Int), 0 ≤ a → a < 10 ^ (k + 1) → k ≤ 15 → rNumber_r (k + 1) a = some (Lib.itoa a) := by
  intro k
  induction k with
  | zero =>
    intro a h0 h1 _
    have h1' : a < 10 := by simpa using h1
    unfold rNumber_r
    have e1 : remO a 10 = some (a % 10) := by unfold remO; rw [if_pos (by decide), Int.tmod_eq_emod_of_nonneg h0]
    have w1 : IntKind.wrap .i64 (48 + a % 10) = 48 + a % 10 := wrap64 (by omega) (by omega)
    have w2 : IntKind.wrap .u8 (48 + a % 10) = 48 + a % 10 := wrap8 (by omega) (by omega)
    have c1 : ¬ (10 : Int) ≤ a := by omega
    simp only [e1, Option.bind_some, letO, w1, w2, c1, decide_false, cond_false]
    rw [itoa_rec h0, if_pos h1']
    simp only [List.map_cons, List.map_nil]
    rw [show (48 + a % 10).toNat = 48 + a.toNat from by omega]
  | succ k ih =>
    intro a h0 h1 hk
    unfold rNumber_r
    have e1 : remO a 10 = some (a % 10) := by unfold remO; rw [if_pos (by decide), Int.tmod_eq_emod_of_nonneg h0]
    have w1 : IntKind.wrap .i64 (48 + a % 10) = 48 + a % 10 := wrap64 (by omega) (by omega)
    have w2 : IntKind.wrap .u8 (48 + a % 10) = 48 + a % 10 := wrap8 (by omega) (by omega)
    have hp : (10 : Int) ^ (k + 1 + 1) = 10 * 10 ^ (k + 1) := by rw [Int.pow_succ]; omega
    have hb : (10 : Int) ^ (k + 1) ≤ 10 ^ 16 := by
      have := Nat.pow_le_pow_right (n := 10) (by decide) (show k + 1 ≤ 16 by omega)
      have e2 : ((10 ^ (k + 1) : Nat) : Int) = (10 : Int) ^ (k + 1) := by simp
      have e3 : ((10 ^ 16 : Nat) : Int) = (10 : Int) ^ 16 := by simp
      rw [← e2, ← e3]; omega
    have e9 : (10 : Int) ^ 16 = 10000000000000000 := by decide
    rw [hp] at h1
    rw [e9] at hb
    simp only [e1, Option.bind_some, letO, w1, w2]
    rw [itoa_rec h0]
    by_cases c1 : (10 : Int) ≤ a
    · have q1 : quoO .i64 a 10 = some (a / 10) := by
        unfold quoO; rw [if_pos (by decide), Int.tdiv_eq_ediv_of_nonneg h0, wrap64 (by omega) (by omega)]
      have i1 := ih (a / 10) (by omega) (by omega) (by omega)
      have c2 : ¬ a < 10 := by omega
      have hlen : (Lib.itoa (a / 10)).length ≤ 20 := by
        rw [itoa_dec (by omega)]
        have := dec_len 19 (a / 10).toNat (by omega)
        omega
      simp only [c1, decide_true, cond_true, q1, Option.bind_some, i1, c2, if_false, List.map_cons, List.map_nil]
      rw [cat_ok (by simp; omega)]
      rw [show (48 + a % 10).toNat = 48 + (a % 10).toNat from by omega]
      rfl
    · have c2 : a < 10 := by omega
      simp only [c1, c2, decide_false, cond_false, if_true, List.map_cons, List.map_nil]
      rw [show (48 + a % 10).toNat = 48 + a.toNat from by omega]
theorem rNumber_ok' (n : Nat) {a : Int} (h : 0 ≤ a ∧ a ≤ 999999999) (hn : 10 ≤ n) : ∀ k, n = k + 10 → rNumber_r n a = some (Lib.itoa a) := by
  -- more levels tell the same
  have more : ∀ (k : Nat) (a : Int) (r : List UInt8), rNumber_r k a = some r → rNumber_r (k + 1) a = some r := by
    intro k
    induction k with
    | zero => intro a r hr; cases hr
    | succ k ih =>
      intro a r hr
      rw [rNumber_r] at hr ⊢
      cases e1 : remO a 10 with
      | none => rw [e1] at hr; cases hr
      | some n1 =>
        rw [e1] at hr
        simp only [Option.bind_some, letO] at hr ⊢
        by_cases c1 : (10 : Int) ≤ a
        · simp only [c1, decide_true, cond_true] at hr ⊢
          cases e2 : quoO .i64 a 10 with
          | none => rw [e2] at hr; cases hr
          | some n4 =>
            rw [e2] at hr
            simp only [Option.bind_some] at hr ⊢
            cases e3 : rNumber_r k n4 with
            | none => rw [e3] at hr; cases hr
            | some r5 =>
              rw [e3] at hr
              rw [ih n4 r5 e3]
              exact hr
        · simp only [c1, decide_false, cond_false] at hr ⊢
          exact hr
  intro k
  induction k generalizing n with
  | zero =>
    rintro rfl
    exact rNumber_spec 9 a h.1 (by have : (10 : Int) ^ (9 + 1) = 10000000000 := by decide
                                   rw [this]; omega) (by decide)
  | succ k ih =>
    rintro rfl
    exact more _ _ _ (ih (k + 10) (by omega) rfl)
theorem rNumber_all (n : Nat) {a : Int} (h : 0 ≤ a ∧ a ≤ 999999999) (hn : 10 ≤ n) : rNumber_r n a = some (Lib.itoa a) := rNumber_ok' n h hn (n - 10) (by omega)
end Go.Proofs.YtgihkohggalefabDoor.AM
