/- The contracts of package sum. -/
import Derived.Test.YtihblpahickhnaaChecked
import Derived.WalkKit
import Derived.ProofKit
import Derived.OpenShut
import Derived.Lib.Hide
import Derived.Deep.QuietTactic
import Derived.BigQuiet
import Derived.Outline
import Derived.Handy
import Derived.Test.YtihblpahickhnaaSumMath
namespace Go.Proofs.Ytihblpahickhnaa
open Go.RowKit
namespace SumW
theorem ret_bool {a b : Bool} (h : a = b) : Ending.returned (.bool a) = .returned (.bool b) := by rw [h]
theorem ret_int {k : IntKind} {a b : Int} (h : a = b) : Ending.returned (.int k a) = .returned (.int k b) := by rw [h]
set_option maxHeartbeats 400000 in
theorem whole_any (h l : Int) (w : World) (h0 : 0 ≤ h) (h1 : h < 65521) (l0 : 0 ≤ l) (l1 : l < 65521) :
    Calls Try.prog 51 #[.int .i64 h, .int .i64 l] w fun e w' => e = .returned (.int .i64 (h * 65536 + l)) ∧ w = w' := by
  go_enter Try.func51, Try.ntmps51
  go_wp2
  go_ret
  exact ⟨rfl, rfl⟩
set_option maxHeartbeats 400000 in
theorem halves_yes (n : Int) (w : World) (h : 0 ≤ n) (h1 : n / 65536 < 65521) (h2 : n % 65536 < 65521) :
    Calls Try.prog 50 #[.int .i64 n] w fun e w' => e = .returned (.tuple #[.int .i64 (n / 65536), .int .i64 (n % 65536), .bool true]) ∧ w = w' := by
  go_enter Try.func50, Try.ntmps50
  go_wp2
  go_ret3
  exact ⟨rfl, rfl⟩

set_option maxHeartbeats 400000 in
theorem halves_no (n : Int) (w : World) (hb : -9223372036854775808 ≤ n ∧ n ≤ 9223372036854775807) (h : ¬ SM.isSum n) :
    Calls Try.prog 50 #[.int .i64 n] w fun e w' => e = .returned (.tuple #[.int .i64 0, .int .i64 0, .bool false]) ∧ w = w' := by
  unfold SM.isSum at h
  by_cases h0 : n < 0
  · go_enter Try.func50, Try.ntmps50
    go_wp2
    go_ret3
    exact ⟨rfl, rfl⟩
  · by_cases h1 : n / 65536 < 65521
    · have h2 : 65521 ≤ n % 65536 := by omega
      clear h
      go_enter Try.func50, Try.ntmps50
      go_wp2
      go_ret3
      exact ⟨rfl, rfl⟩
    · clear h
      go_enter Try.func50, Try.ntmps50
      go_wp2
      go_ret3
      exact ⟨rfl, rfl⟩
set_option maxHeartbeats 400000 in
theorem roll_yes (n : Int) (s : ByteArray) (w : World) (h : SM.isSum n) (hs : s.size ≤ maxLen) :
    Calls Try.prog 36 #[.int .i64 n, .string s] w fun e w' => e = .returned (.int .i64 (SM.rollF n s.data.toList)) ∧ w = w' := by
  unfold maxLen at hs
  have hok := SM.ok_of_isSum h
  have hF : Hid (SM.rollF n s.data.toList = (SM.steps (n / 65536, n % 65536) s.data.toList).1 * 65536 + (SM.steps (n / 65536, n % 65536) s.data.toList).2) := by
    apply Lib.hid; unfold SM.rollF; rw [if_pos h]
  unfold SM.isSum at h
  obtain ⟨g0, g1, g2⟩ := h
  go_enter Try.func36, Try.ntmps36
  go_wp2_with (go_at_call 50; refine (halves_yes _ _ (by omega) (by omega) (by omega)).mono ?_; rintro e w' ⟨rfl, rfl⟩)
  go_loop [5, 6, 19] (fun a b i => ∃ k : Nat, k ≤ s.size ∧ i = .int .i64 k ∧ a = .int .i64 (SM.steps (n / 65536, n % 65536) (s.data.toList.take k)).1 ∧ b = .int .i64 (SM.steps (n / 65536, n % 65536) (s.data.toList.take k)).2) (fun _ _ i => s.size - (intOf i).toNat)
  case atStart => exact ⟨0, Nat.zero_le _, rfl, rfl, rfl⟩
  case round =>
    obtain ⟨k, hk, rfl, rfl, rfl⟩ := hrel
    have hp := SM.steps_ok (s.data.toList.take k) hok
    generalize hq : SM.steps (n / 65536, n % 65536) (s.data.toList.take k) = q at *
    obtain ⟨a, b⟩ := q
    unfold SM.Ok at hp
    simp only at hp
    obtain ⟨p0, p1, p2, p3⟩ := hp
    have HQ := Lib.hid hq; clear hq
    by_cases hlt : k < s.size
    · have hc : (s[k].toNat : Int) < 256 := by have := s[k].toNat_lt; omega
      go_wp2
      go_round
      case rel => exact ⟨k + 1, by omega, by go_num, by rw [SM.take_snoc s k hlt, SM.steps_snoc, HQ.out]; rfl, by rw [SM.take_snoc s k hlt, SM.steps_snoc, HQ.out]; rfl⟩
      case measure => simp [intOf]; omega
    · have hkk : k = s.size := by omega
      have hT : s.data.toList.take k = s.data.toList := List.take_of_length_le (by simp; omega)
      rw [hT] at HQ
      clear hT
      go_wp2_with (go_at_call 51; refine (whole_any _ _ _ (by omega) (by omega) (by omega) (by omega)).mono ?_; rintro e w' ⟨rfl, rfl⟩)
      go_ret
      exact ⟨ret_int (by rw [hF.out, HQ.out]), rfl⟩
set_option maxHeartbeats 400000 in
theorem roll_no (n : Int) (s : ByteArray) (w : World) (hb : -9223372036854775808 ≤ n ∧ n ≤ 9223372036854775807) (h : ¬ SM.isSum n) :
    Calls Try.prog 36 #[.int .i64 n, .string s] w fun e w' => e = .returned (.int .i64 (SM.rollF n s.data.toList)) ∧ w = w' := by
  have hF : Hid (SM.rollF n s.data.toList = 0) := by apply Lib.hid; unfold SM.rollF; rw [if_neg h]
  go_enter Try.func36, Try.ntmps36
  go_wp2_with (go_at_call 50; refine (halves_no _ _ hb h).mono ?_; rintro e w' ⟨rfl, rfl⟩)
  go_ret
  exact ⟨ret_int (by rw [hF.out]), rfl⟩
theorem roll_any (n : Int) (s : ByteArray) (w : World) (hb : -9223372036854775808 ≤ n ∧ n ≤ 9223372036854775807) (hs : s.size ≤ maxLen) :
    Calls Try.prog 36 #[.int .i64 n, .string s] w fun e w' => e = .returned (.int .i64 (SM.rollF n s.data.toList)) ∧ w = w' := by
  by_cases h : SM.isSum n
  · exact roll_yes n s w h hs
  · exact roll_no n s w hb h
set_option maxHeartbeats 400000 in
theorem of_any (s : ByteArray) (w : World) (hs : s.size ≤ maxLen) :
    Calls Try.prog 34 #[.string s] w fun e w' => e = .returned (.int .i64 (SM.rollF 1 s.data.toList)) ∧ w = w' := by
  go_enter Try.func34, Try.ntmps34
  go_wp2_with (go_at_call 36; refine (roll_any _ _ _ (by omega) hs).mono ?_; rintro e w' ⟨rfl, rfl⟩)
  go_ret
  exact ⟨rfl, rfl⟩
set_option maxHeartbeats 400000 in
theorem join_yes (a b n : Int) (w : World) (ha : SM.isSum a) (hb : SM.isSum b) (h0 : 0 ≤ n) (h1 : n ≤ 1099511627776) :
    Calls Try.prog 38 #[.int .i64 a, .int .i64 b, .int .i64 n] w fun e w' => e = .returned (.int .i64 (SM.joinF a b n)) ∧ w = w' := by
  have hF : Hid (SM.joinF a b n = (a / 65536 + b / 65536 + (n % 65521) * (a % 65536 + 65520)) % 65521 * 65536 + (b % 65536 + (a % 65536 + 65520)) % 65521) := by
    apply Lib.hid; unfold SM.joinF; rw [if_pos ⟨ha, hb, h0, h1⟩]
  unfold SM.isSum at ha hb
  obtain ⟨a0, a1, a2⟩ := ha
  obtain ⟨b0, b1, b2⟩ := hb
  have hm : 0 ≤ n % 65521 ∧ n % 65521 ≤ 65520 := by omega
  have hp0 : 0 ≤ n % 65521 * (a % 65536 + 65521 - 1) := Int.mul_nonneg hm.1 (by omega)
  have hp1 : n % 65521 * (a % 65536 + 65521 - 1) ≤ 65520 * 131040 := Int.mul_le_mul hm.2 (by omega) (by omega) (by omega)
  go_enter Try.func38, Try.ntmps38
  go_wp2_with fail
  refine (halves_yes a _ (by omega) (by omega) (by omega)).mono ?_; rintro e w' ⟨rfl, rfl⟩
  go_wp2_with fail
  refine (halves_yes b _ (by omega) (by omega) (by omega)).mono ?_; rintro e w' ⟨rfl, rfl⟩
  go_wp2_with fail
  refine (whole_any _ _ _ (by omega) (by omega) (by omega) (by omega)).mono ?_; rintro e w' ⟨rfl, rfl⟩
  go_wp2_with fail
  go_ret
  exact ⟨ret_int (by rw [hF.out, show a % 65536 + 65521 - 1 = a % 65536 + 65520 from by omega]), rfl⟩
set_option maxHeartbeats 400000 in
theorem join_no (a b n : Int) (w : World) (ka : -9223372036854775808 ≤ a ∧ a ≤ 9223372036854775807) (kb : -9223372036854775808 ≤ b ∧ b ≤ 9223372036854775807) (kn : -9223372036854775808 ≤ n ∧ n ≤ 9223372036854775807) (h : ¬ (SM.isSum a ∧ SM.isSum b ∧ 0 ≤ n ∧ n ≤ 1099511627776)) :
    Calls Try.prog 38 #[.int .i64 a, .int .i64 b, .int .i64 n] w fun e w' => e = .returned (.int .i64 (SM.joinF a b n)) ∧ w = w' := by
  have hF : Hid (SM.joinF a b n = 0) := by apply Lib.hid; unfold SM.joinF; rw [if_neg h]
  have H := Lib.hid h; clear h
  by_cases ha : SM.isSum a
  · by_cases hb : SM.isSum b
    · have g : n < 0 ∨ 1099511627776 < n := by
        have h := H.out
        simp only [ha, hb, true_and] at h; omega
      unfold SM.isSum at ha hb
      obtain ⟨a0, a1, a2⟩ := ha
      obtain ⟨b0, b1, b2⟩ := hb
      rcases g with g | g
      all_goals
        go_enter Try.func38, Try.ntmps38
        go_wp2_with fail
        refine (halves_yes a _ (by omega) (by omega) (by omega)).mono ?_; rintro e w' ⟨rfl, rfl⟩
        go_wp2_with fail
        refine (halves_yes b _ (by omega) (by omega) (by omega)).mono ?_; rintro e w' ⟨rfl, rfl⟩
        go_wp2_with fail
        go_ret
        exact ⟨ret_int (by rw [hF.out]), rfl⟩
    · have Ha := Lib.hid ha
      unfold SM.isSum at ha
      obtain ⟨a0, a1, a2⟩ := ha
      have Hb := Lib.hid hb; clear hb
      go_enter Try.func38, Try.ntmps38
      go_wp2_with fail
      refine (halves_yes a _ (by omega) (by omega) (by omega)).mono ?_; rintro e w' ⟨rfl, rfl⟩
      go_wp2_with fail
      refine (halves_no b _ kb Hb.out).mono ?_; rintro e w' ⟨rfl, rfl⟩
      go_wp2_with fail
      go_ret
      exact ⟨ret_int (by rw [hF.out]), rfl⟩
  · have Ha := Lib.hid ha; clear ha
    by_cases hb : SM.isSum b
    all_goals
      have Hb := Lib.hid hb
      clear hb
      go_enter Try.func38, Try.ntmps38
      go_wp2_with fail
      refine (halves_no a _ ka Ha.out).mono ?_; rintro e w' ⟨rfl, rfl⟩
      go_wp2_with fail
      first
        | refine (halves_no b _ kb Hb.out).mono ?_
        | refine (halves_yes b _ (by have := Hb.out; unfold SM.isSum at this; omega) (by have := Hb.out; unfold SM.isSum at this; omega) (by have := Hb.out; unfold SM.isSum at this; omega)).mono ?_
      rintro e w' ⟨rfl, rfl⟩
      go_wp2_with fail
      go_ret
      exact ⟨ret_int (by rw [hF.out]), rfl⟩
theorem join_any (a b n : Int) (w : World) (ka : -9223372036854775808 ≤ a ∧ a ≤ 9223372036854775807) (kb : -9223372036854775808 ≤ b ∧ b ≤ 9223372036854775807) (kn : -9223372036854775808 ≤ n ∧ n ≤ 9223372036854775807) :
    Calls Try.prog 38 #[.int .i64 a, .int .i64 b, .int .i64 n] w fun e w' => e = .returned (.int .i64 (SM.joinF a b n)) ∧ w = w' := by
  by_cases h : SM.isSum a ∧ SM.isSum b ∧ 0 ≤ n ∧ n ≤ 1099511627776
  · exact join_yes a b n w h.1 h.2.1 h.2.2.1 h.2.2.2
  · exact join_no a b n w ka kb kn h

/-! the document's answers -/
set_option maxHeartbeats 400000 in
theorem is_yes (n : Int) (w : World) (h : SM.isSum n) :
    Calls Try.prog 52 #[.int .i64 n] w fun e w' => e = .returned (.bool true) ∧ w = w' := by
  unfold SM.isSum at h
  obtain ⟨h0, h1, h2⟩ := h
  go_enter Try.func52, Try.ntmps52
  go_wp2
  go_ret
  exact ⟨ret_bool (by simp; omega), rfl⟩
set_option maxHeartbeats 400000 in
theorem is_no (n : Int) (w : World) (hb : -9223372036854775808 ≤ n ∧ n ≤ 9223372036854775807) (h : ¬ SM.isSum n) :
    Calls Try.prog 52 #[.int .i64 n] w fun e w' => e = .returned (.bool false) ∧ w = w' := by
  unfold SM.isSum at h
  by_cases h0 : n < 0
  · clear h
    go_enter Try.func52, Try.ntmps52
    go_wp2
    go_ret
    exact ⟨rfl, rfl⟩
  · by_cases h1 : n / 65536 ≤ 65520
    · have h2 : 65520 < n % 65536 := by omega
      clear h
      go_enter Try.func52, Try.ntmps52
      go_wp2
      go_ret
      exact ⟨ret_bool (by simp; omega), rfl⟩
    · clear h
      go_enter Try.func52, Try.ntmps52
      go_wp2
      go_ret
      exact ⟨rfl, rfl⟩
set_option maxHeartbeats 400000 in
theorem rroll_yes (n : Int) (s : ByteArray) (w : World) (h : SM.isSum n) (hs : s.size ≤ maxLen) :
    Calls Try.prog 37 #[.int .i64 n, .string s] w fun e w' => e = .returned (.int .i64 (SM.rollF n s.data.toList)) ∧ w = w' := by
  unfold maxLen at hs
  have hok := SM.ok_of_isSum h
  have hF : Hid (SM.rollF n s.data.toList = (SM.steps (n / 65536, n % 65536) s.data.toList).1 * 65536 + (SM.steps (n / 65536, n % 65536) s.data.toList).2) := by
    apply Lib.hid; unfold SM.rollF; rw [if_pos h]
  have HS := Lib.hid h
  unfold SM.isSum at h
  obtain ⟨g0, g1, g2⟩ := h
  go_enter Try.func37, Try.ntmps37
  go_wp2_with (go_at_call 52; refine (is_yes _ _ HS.out).mono ?_; rintro e w' ⟨rfl, rfl⟩)
  go_loop [5, 6, 7] (fun b a i => ∃ k : Nat, k ≤ s.size ∧ i = .int .i64 k ∧ a = .int .i64 (SM.steps (n / 65536, n % 65536) (s.data.toList.take k)).1 ∧ b = .int .i64 (SM.steps (n / 65536, n % 65536) (s.data.toList.take k)).2) (fun _ _ i => s.size - (intOf i).toNat)
  case atStart => exact ⟨0, Nat.zero_le _, rfl, rfl, rfl⟩
  case round =>
    obtain ⟨k, hk, rfl, rfl, rfl⟩ := hrel
    have hp := SM.steps_ok (s.data.toList.take k) hok
    generalize hq : SM.steps (n / 65536, n % 65536) (s.data.toList.take k) = q at *
    obtain ⟨a, b⟩ := q
    unfold SM.Ok at hp
    simp only at hp
    obtain ⟨p0, p1, p2, p3⟩ := hp
    have HQ := Lib.hid hq; clear hq
    by_cases hlt : k < s.size
    · have hc : (s[k].toNat : Int) < 256 := by have := s[k].toNat_lt; omega
      go_wp2
      go_round
      case rel => exact ⟨k + 1, by omega, by go_num, by rw [SM.take_snoc s k hlt, SM.steps_snoc, HQ.out]; rfl, by rw [SM.take_snoc s k hlt, SM.steps_snoc, HQ.out]; rfl⟩
      case measure => simp [intOf]; omega
    · have hkk : k = s.size := by omega
      have hT : s.data.toList.take k = s.data.toList := List.take_of_length_le (by simp; omega)
      rw [hT] at HQ
      clear hT
      go_wp2
      go_ret
      exact ⟨ret_int (by rw [hF.out, HQ.out]; simp only; omega), rfl⟩
set_option maxHeartbeats 400000 in
theorem rroll_no (n : Int) (s : ByteArray) (w : World) (hb : -9223372036854775808 ≤ n ∧ n ≤ 9223372036854775807) (h : ¬ SM.isSum n) :
    Calls Try.prog 37 #[.int .i64 n, .string s] w fun e w' => e = .returned (.int .i64 (SM.rollF n s.data.toList)) ∧ w = w' := by
  have hF : Hid (SM.rollF n s.data.toList = 0) := by apply Lib.hid; unfold SM.rollF; rw [if_neg h]
  have H := Lib.hid h; clear h
  go_enter Try.func37, Try.ntmps37
  go_wp2_with (go_at_call 52; refine (is_no _ _ hb H.out).mono ?_; rintro e w' ⟨rfl, rfl⟩)
  go_ret
  exact ⟨ret_int (by rw [hF.out]), rfl⟩
theorem rroll_any (n : Int) (s : ByteArray) (w : World) (hb : -9223372036854775808 ≤ n ∧ n ≤ 9223372036854775807) (hs : s.size ≤ maxLen) :
    Calls Try.prog 37 #[.int .i64 n, .string s] w fun e w' => e = .returned (.int .i64 (SM.rollF n s.data.toList)) ∧ w = w' := by
  by_cases h : SM.isSum n
  · exact rroll_yes n s w h hs
  · exact rroll_no n s w hb h
set_option maxHeartbeats 400000 in
theorem rof_any (s : ByteArray) (w : World) (hs : s.size ≤ maxLen) :
    Calls Try.prog 35 #[.string s] w fun e w' => e = .returned (.int .i64 (SM.rollF 1 s.data.toList)) ∧ w = w' := by
  go_enter Try.func35, Try.ntmps35
  go_wp2_with (go_at_call 37; refine (rroll_any _ _ _ (by omega) hs).mono ?_; rintro e w' ⟨rfl, rfl⟩)
  go_ret
  exact ⟨rfl, rfl⟩
set_option maxHeartbeats 400000 in
theorem rjoin_yes (a b n : Int) (w : World) (ha : SM.isSum a) (hb : SM.isSum b) (h0 : 0 ≤ n) (h1 : n ≤ 1099511627776) :
    Calls Try.prog 39 #[.int .i64 a, .int .i64 b, .int .i64 n] w fun e w' => e = .returned (.int .i64 (SM.joinF a b n)) ∧ w = w' := by
  have hF : Hid (SM.joinF a b n = (a / 65536 + b / 65536 + (n % 65521) * (a % 65536 + 65520)) % 65521 * 65536 + (b % 65536 + (a % 65536 + 65520)) % 65521) := by
    apply Lib.hid; unfold SM.joinF; rw [if_pos ⟨ha, hb, h0, h1⟩]
  have Ha := Lib.hid ha
  have Hb := Lib.hid hb
  unfold SM.isSum at ha hb
  obtain ⟨a0, a1, a2⟩ := ha
  obtain ⟨b0, b1, b2⟩ := hb
  have hm : 0 ≤ n % 65521 ∧ n % 65521 ≤ 65520 := by omega
  have hp0 : 0 ≤ n % 65521 * ((a % 65536 + 65520) % 65521) := Int.mul_nonneg hm.1 (by omega)
  have hp1 : n % 65521 * ((a % 65536 + 65520) % 65521) ≤ 65520 * 65520 := Int.mul_le_mul hm.2 (by omega) (by omega) (by omega)
  have hmm : Hid ((n % 65521 * ((a % 65536 + 65520) % 65521)) % 65521 = (n % 65521 * (a % 65536 + 65520)) % 65521) := by
    apply Lib.hid; rw [Int.mul_emod (n % 65521) ((a % 65536 + 65520) % 65521), Int.mul_emod (n % 65521) (a % 65536 + 65520), Int.emod_emod, Int.emod_emod]
  go_enter Try.func39, Try.ntmps39
  go_wp2_with fail
  refine (is_yes a _ Ha.out).mono ?_; rintro e w' ⟨rfl, rfl⟩
  go_wp2_with fail
  refine (is_yes b _ Hb.out).mono ?_; rintro e w' ⟨rfl, rfl⟩
  go_wp2_with fail
  go_ret
  refine ⟨ret_int ?_, rfl⟩
  rw [hF.out]
  have := hmm.out
  generalize n % 65521 * ((a % 65536 + 65520) % 65521) = x at *
  generalize n % 65521 * (a % 65536 + 65520) = y at *
  omega
set_option maxHeartbeats 400000 in
theorem rjoin_no (a b n : Int) (w : World) (ka : -9223372036854775808 ≤ a ∧ a ≤ 9223372036854775807) (kb : -9223372036854775808 ≤ b ∧ b ≤ 9223372036854775807) (kn : -9223372036854775808 ≤ n ∧ n ≤ 9223372036854775807) (h : ¬ (SM.isSum a ∧ SM.isSum b ∧ 0 ≤ n ∧ n ≤ 1099511627776)) :
    Calls Try.prog 39 #[.int .i64 a, .int .i64 b, .int .i64 n] w fun e w' => e = .returned (.int .i64 (SM.joinF a b n)) ∧ w = w' := by
  have hF : Hid (SM.joinF a b n = 0) := by apply Lib.hid; unfold SM.joinF; rw [if_neg h]
  have H := Lib.hid h; clear h
  by_cases ha : SM.isSum a
  · by_cases hb : SM.isSum b
    · have g : n < 0 ∨ 1099511627776 < n := by
        have h := H.out
        simp only [ha, hb, true_and] at h; omega
      have Ha := Lib.hid ha; clear ha
      have Hb := Lib.hid hb; clear hb
      rcases g with g | g
      all_goals
        go_enter Try.func39, Try.ntmps39
        go_wp2_with fail
        refine (is_yes a _ Ha.out).mono ?_; rintro e w' ⟨rfl, rfl⟩
        go_wp2_with fail
        refine (is_yes b _ Hb.out).mono ?_; rintro e w' ⟨rfl, rfl⟩
        go_wp2_with fail
        go_ret
        exact ⟨ret_int (by rw [hF.out]), rfl⟩
    · have Ha := Lib.hid ha; clear ha
      have Hb := Lib.hid hb; clear hb
      go_enter Try.func39, Try.ntmps39
      go_wp2_with fail
      refine (is_yes a _ Ha.out).mono ?_; rintro e w' ⟨rfl, rfl⟩
      go_wp2_with fail
      refine (is_no b _ kb Hb.out).mono ?_; rintro e w' ⟨rfl, rfl⟩
      go_wp2_with fail
      go_ret
      exact ⟨ret_int (by rw [hF.out]), rfl⟩
  · have Ha := Lib.hid ha; clear ha
    go_enter Try.func39, Try.ntmps39
    go_wp2_with fail
    refine (is_no a _ ka Ha.out).mono ?_; rintro e w' ⟨rfl, rfl⟩
    go_wp2_with fail
    go_ret
    exact ⟨ret_int (by rw [hF.out]), rfl⟩
theorem rjoin_any (a b n : Int) (w : World) (ka : -9223372036854775808 ≤ a ∧ a ≤ 9223372036854775807) (kb : -9223372036854775808 ≤ b ∧ b ≤ 9223372036854775807) (kn : -9223372036854775808 ≤ n ∧ n ≤ 9223372036854775807) :
    Calls Try.prog 39 #[.int .i64 a, .int .i64 b, .int .i64 n] w fun e w' => e = .returned (.int .i64 (SM.joinF a b n)) ∧ w = w' := by
  by_cases h : SM.isSum a ∧ SM.isSum b ∧ 0 ≤ n ∧ n ≤ 1099511627776
  · exact rjoin_yes a b n w h.1 h.2.1 h.2.2.1 h.2.2.2
  · exact rjoin_no a b n w ka kb kn h

/-! the document's examples -/
set_option maxHeartbeats 400000 in
theorem live_any (w : World) : Calls Try.prog 33 #[] w fun e w' => e = .returned (.bool true) ∧ w = w' := by
  have c1 : SM.rollF 1 [] = 1 := by decide +kernel
  have c2 : SM.rollF 1 [87, 105, 107, 105, 112, 101, 100, 105, 97] = 300286872 := by decide +kernel
  have c3 : SM.rollF (SM.rollF 1 [87, 105, 107, 105]) [112, 101, 100, 105, 97] = 300286872 := by decide +kernel
  have c4 : SM.rollF (-1) [97] = 0 := by decide +kernel
  have c5 : SM.rollF 65521 [] = 0 := by decide +kernel
  have c6 : SM.rollF 65520 [] = 65520 := by decide +kernel
  have c7 : SM.joinF (SM.rollF 1 [87, 105, 107, 105]) (SM.rollF 1 [112, 101, 100, 105, 97]) 5 = 300286872 := by decide +kernel
  have c8 : SM.joinF 1 1 (-1) = 0 := by decide +kernel
  go_enter Try.func33, Try.ntmps33
  go_wp2_with fail
  refine (of_any _ _ (by decide)).mono ?_; rintro e w' ⟨rfl, rfl⟩
  go_wp2_with fail
  refine (of_any _ _ (by decide)).mono ?_; rintro e w' ⟨rfl, rfl⟩
  go_wp2_with fail
  refine (of_any _ _ (by decide)).mono ?_; rintro e w' ⟨rfl, rfl⟩
  go_wp2_with fail
  refine (roll_any _ _ _ (by have := SM.roll_lt 1 [87, 105, 107, 105]; omega) (by decide)).mono ?_; rintro e w' ⟨rfl, rfl⟩
  go_wp2_with fail
  refine (roll_any _ _ _ (by decide) (by decide)).mono ?_; rintro e w' ⟨rfl, rfl⟩
  go_wp2_with fail
  refine (roll_any _ _ _ (by decide) (by decide)).mono ?_; rintro e w' ⟨rfl, rfl⟩
  go_wp2_with fail
  refine (roll_any _ _ _ (by decide) (by decide)).mono ?_; rintro e w' ⟨rfl, rfl⟩
  go_wp2_with fail
  refine (of_any _ _ (by decide)).mono ?_; rintro e w' ⟨rfl, rfl⟩
  go_wp2_with fail
  refine (of_any _ _ (by decide)).mono ?_; rintro e w' ⟨rfl, rfl⟩
  go_wp2_with fail
  refine (join_any _ _ _ _ (by have := SM.roll_lt 1 [87, 105, 107, 105]; omega) (by have := SM.roll_lt 1 [112, 101, 100, 105, 97]; omega) (by decide)).mono ?_; rintro e w' ⟨rfl, rfl⟩
  go_wp2_with fail
  refine (join_any _ _ _ _ (by decide) (by decide) (by decide)).mono ?_; rintro e w' ⟨rfl, rfl⟩
  go_wp2_with fail
  go_ret
  exact ⟨rfl, rfl⟩
end SumW
end Go.Proofs.Ytihblpahickhnaa
