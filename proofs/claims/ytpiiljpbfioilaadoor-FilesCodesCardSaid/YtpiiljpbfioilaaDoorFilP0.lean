/- Layer 5: a path's part: what it comes to. -/
import Derived.Test.YtpiiljpbfioilaaDoorFilG0
import Derived.Test.YtpiiljpbfioilaaDoorPure
namespace Go.Proofs.YtpiiljpbfioilaaDoor.AM
open Go.RowKit
set_option linter.unusedVariables false
set_option linter.unusedSimpArgs false
theorem fSign_spec (n : Nat) (c : UInt8) : fSign_t n ((c.toNat : Nat) : Int) = some (pSign c) := by
  have h : ∀ k : Fin 256, fSign_t 0 ((k.val : Nat) : Int) = some (pSign (UInt8.ofNat k.val)) := by decide +kernel
  have h1 := h ⟨c.toNat, c.toNat_lt⟩
  have e : UInt8.ofNat c.toNat = c := by simp
  rw [e] at h1
  exact h1
theorem fPart_loop (n : Nat) (s : List UInt8) (hL : s.length ≤ 1000000) : ∀ m j : Nat, j ≤ s.length → s.length - j < m → fPart_loop0 n m s ((s.length : Nat) : Int) (j : Int) = some (if (s.drop j).all pSign = true then Sum.inr ((), ((), ())) else Sum.inl ((false, ()), ((), ())))
  | 0, j, _, h => absurd h (Nat.not_lt_zero _)
  | m + 1, j, hj, h => by
    rw [fPart_loop0_succ]
    unfold fPart_l0
    by_cases c0 : j < s.length
    · have c0' : ((j : Nat) : Int) < ((s.length : Nat) : Int) := by omega
      have ih := fPart_loop n s hL m (j + 1) (by omega) (by omega)
      have hd : s.drop j = s[j] :: s.drop (j + 1) := (List.drop_eq_getElem_cons c0)
      simp only [c0', decide_true, cond_true, sAt_lt c0, Option.bind_some, fSign_spec, letO, wrap_succ (show j < 4611686018427387904 by omega), ih, hd, List.all_cons]
      cases pSign s[j] <;> simp
    · have c0' : ¬ ((j : Nat) : Int) < ((s.length : Nat) : Int) := by omega
      have : s.drop j = [] := List.drop_eq_nil_of_le (by omega)
      simp [c0', this]
theorem fPart_spec (n : Nat) (s : List UInt8) (hL : s.length ≤ 1000000) (hn : s.length < n) : fPart_t n s = some (partS s) := by
  unfold fPart_t partS
  have := fPart_loop n s hL n 0 (Nat.zero_le _) (by omega)
  rw [show ((0 : Nat) : Int) = (0 : Int) from rfl] at this
  rw [this, List.drop_zero]
  cases decide (s = []) <;> cases decide (s = [46]) <;> cases decide (s = [46, 46]) <;> cases s.all pSign <;> rfl
end Go.Proofs.YtpiiljpbfioilaaDoor.AM
