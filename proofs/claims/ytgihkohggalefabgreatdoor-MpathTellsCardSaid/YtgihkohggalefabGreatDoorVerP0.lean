/- Layer 7: whether a version may be, and what every other text of this layer leans on. -/
import Derived.Test.YtgihkohggalefabGreatDoorVerG2
import Derived.Test.YtgihkohggalefabGreatDoorVerM2
namespace Go.Proofs.YtgihkohggalefabGreatDoor.AM
open Go.RowKit
set_option linter.unusedVariables false
set_option linter.unusedSimpArgs false
theorem cat_ok {s t : List UInt8} (h : s.length + t.length ≤ 9223372036854775807) : catO s t = some (s ++ t) := if_pos h
theorem vCheck_step (n m : Nat) (a1 a2 a3 i i' a5 a6 a7 x : Int) (a8 a9 : List UInt8) (hx : idxL ([a1, a2, a3] : List Int) i = some x) (hi : i < 3) (hw : IntKind.wrap .i64 (i + 1) = i') :
    vCheck_loop0 n (m + 1) a1 a2 a3 i a5 a6 a7 a8 a9 = if numS x = true then vCheck_loop0 n m a1 a2 a3 i' a5 a6 a7 a8 a9 else some (Sum.inl ((false, ()), ((), ()))) := by
  rw [vCheck_loop0_succ]
  unfold vCheck_l0 numS
  simp only [hi, decide_true, cond_true, hx, Option.bind_some, letO, hw]
  by_cases h1 : x < 0
  · have : ¬ (0 : Int) ≤ x := by omega
    simp [h1, this]
  · have h1' : (0 : Int) ≤ x := by omega
    by_cases h2 : 999999999 < x
    · have : ¬ x ≤ 999999999 := by omega
      simp [h1, h2, this]
    · have : x ≤ 999999999 := by omega
      simp [h1, h2, h1', this]
theorem vCheck_spec (n : Nat) (v : VD) (hn : 4 ≤ n) : vCheck_t n v = some (checkS v) := by
  obtain ⟨k, rfl⟩ : ∃ k, n = k + 1 + 1 + 1 + 1 := ⟨n - 4, by omega⟩
  obtain ⟨a, b, c, p, q⟩ := v
  unfold vCheck_t
  rw [vCheck_step _ _ a b c 0 1 _ _ _ a _ _ rfl (by decide) rfl, vCheck_step _ _ a b c 1 2 _ _ _ b _ _ rfl (by decide) rfl, vCheck_step _ _ a b c 2 3 _ _ _ c _ _ rfl (by decide) rfl, vCheck_loop0_succ]
  unfold vCheck_l0 checkS tailPre_t tailPart_t
  dsimp only
  cases numS a with
  | false => rfl
  | true => cases numS b with
    | false => rfl
    | true => cases numS c with
      | false => rfl
      | true =>
        simp only [if_true, Bool.true_and, show ¬ (3 : Int) < 3 from by decide, decide_false, cond_false, Option.bind_some, Sum.elim_inr]
        cases tailS isPreS p <;> cases tailS isPartS q <;> rfl
theorem Trim_spec (n : Nat) (s : List UInt8) (hs : s.length ≤ 1000000) : TrimPrefix_t n s [118] = some (trimV s) := by
  unfold TrimPrefix_t TrimPrefixI_t HasPrefixI_t trimV
  cases s with
  | nil => rfl
  | cons b r =>
    have h1 : ((List.length ([118] : List UInt8) : Nat) : Int) ≤ ((List.length (b :: r) : Nat) : Int) := by simp; omega
    have h2 : subO (b :: r) (0 : Int) ((List.length ([118] : List UInt8) : Nat) : Int) = some [b] := sub_zero (b := 1) (by simp)
    have h3 : subO (b :: r) ((List.length ([118] : List UInt8) : Nat) : Int) ((List.length (b :: r) : Nat) : Int) = some r := by
      have := sub_le (l := b :: r) (a := 1) (b := (b :: r).length) (by simp) (Nat.le_refl _)
      rw [show ((List.length ([118] : List UInt8) : Nat) : Int) = ((1 : Nat) : Int) from rfl, this]
      simp
    simp only [h1, decide_true, cond_true, h2, Option.bind_some, List.head?_cons, Option.some.injEq, List.drop_succ_cons, List.drop_zero]
    by_cases hb : b = 118
    · simp only [hb, decide_true, cond_true, if_true] at h3 ⊢
      rw [h3]; rfl
    · have : ¬ [b] = ([118] : List UInt8) := fun h => hb (by simpa using h)
      simp [this, hb]
theorem itoa_t_ok {n : Int} (h : 0 ≤ n ∧ n ≤ 999999999) : itoa_t n = some (Lib.itoa n) := if_pos ⟨by omega, by omega⟩
end Go.Proofs.YtgihkohggalefabGreatDoor.AM
