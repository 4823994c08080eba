/- The contract of the document's text of a head. -/
import Derived.Test.YtabmdijfholakaaJqs27
import Derived.Test.YtabmdijfholakaaJqs28
namespace Go.Proofs.Ytabmdijfholakaa
open Go.RowKit
attribute [local go_sem ↓] Go.wp_at_zero Go.wp_at_succ
namespace RecW
set_option maxHeartbeats 1600000 in
theorem rtext_no (k g q z m : Int) (w : World) (hb : -9223372036854775808 ≤ m ∧ m ≤ 9223372036854775807) (h : ¬ RM.may k g q z m) :
    Calls Try.prog 45 #[.agg #[.int .i64 k, .int .i64 g, .int .i64 q, .int .i64 z, .int .i64 m]] w fun e w' => e = .returned (.tuple #[.string (RM.textB k g q z m), .bool (decide (RM.may k g q z m))]) ∧ Below w.heap.size w w' := by
  have hT : RM.textB k g q z m = ⟨#[]⟩ := by unfold RM.textB; rw [if_neg h]; rfl
  rw [hT, decide_eq_false h]
  clear hT
  have H := Lib.hid h; clear h
  by_cases hs : SM.isSum m
  · have HS := Lib.hid hs
    have h : (k = 1 ∨ k = 2) → 0 ≤ g → g ≤ 1073741824 → 0 ≤ q → q ≤ 65535 → 0 ≤ z → z ≤ 4096 → False := fun a b c d e f i => H.out ⟨a, ⟨b, c⟩, ⟨d, e⟩, ⟨f, i⟩, hs⟩
    have H2 := Lib.hid h; clear h hs
    have hk : k = 1 ∨ k = 2 ∨ (k ≠ 1 ∧ k ≠ 2) := by omega
    rcases hk with rfl | rfl | ⟨hk1, hk2⟩
    all_goals
      go_enter Try.func45, Try.ntmps45
      go_wp2_with (go_at_call 61; refine (SumW.is_yes _ _ HS.out).mono ?_; rintro e w' ⟨rfl, rfl⟩)
      all_goals first
        | (go_ret2; exact ⟨rfl, (Below.refl _ _).alloc (Nat.le_refl _) _⟩)
        | (exfalso; exact H2.out (by first | exact .inl trivial | exact .inr trivial | exact .inr rfl | exact .inl rfl | omega | simp_all) (by omega) (by omega) (by omega) (by omega) (by omega) (by omega))
  · have HS := Lib.hid hs; clear hs
    have hk : k = 1 ∨ k = 2 ∨ (k ≠ 1 ∧ k ≠ 2) := by omega
    rcases hk with rfl | rfl | ⟨hk1, hk2⟩
    all_goals
      go_enter Try.func45, Try.ntmps45
      go_wp2_with (go_at_call 61; refine (SumW.is_no _ _ hb HS.out).mono ?_; rintro e w' ⟨rfl, rfl⟩)
      all_goals (go_ret2; exact ⟨rfl, (Below.refl _ _).alloc (Nat.le_refl _) _⟩)
theorem rtext_any (k g q z m : Int) (w : World) (hb : -9223372036854775808 ≤ m ∧ m ≤ 9223372036854775807) :
    Calls Try.prog 45 #[.agg #[.int .i64 k, .int .i64 g, .int .i64 q, .int .i64 z, .int .i64 m]] w fun e w' => e = .returned (.tuple #[.string (RM.textB k g q z m), .bool (decide (RM.may k g q z m))]) ∧ Below w.heap.size w w' := by
  by_cases h : RM.may k g q z m
  · have hT : RM.textB k g q z m = RM.str (RM.textL k g q z m) := by unfold RM.textB; rw [if_pos h]
    rw [hT, decide_eq_true h]
    unfold RM.may at h
    obtain ⟨h1, ⟨h2, h3⟩, ⟨h4, h5⟩, ⟨h6, h7⟩, h8⟩ := h
    rcases h1 with rfl | rfl
    · exact rtext_yes1 g q z m w h2 h3 h4 h5 h6 h7 h8
    · exact rtext_yes2 g q z m w h2 h3 h4 h5 h6 h7 h8
  · exact rtext_no k g q z m w hb h
end RecW
end Go.Proofs.Ytabmdijfholakaa
