/- The contracts of package sum: Of and Roll, and what the document answers there. -/
import Derived.Test.YtnoegkhkeeameaaChecked
import Derived.WalkKit
import Derived.ProofKit
import Derived.OpenShut
import Derived.Lib.Hide
import Derived.Deep.QuietTactic
import Derived.BigQuiet
import Derived.Outline
import Derived.Handy
import Derived.Test.YtnoegkhkeeameaaSumMath
namespace Go.Proofs.Ytnoegkhkeeameaa
open Go.RowKit
namespace SumW
theorem ret_bool {a b : Bool} (h : a = b) : Ending.returned (.bool a) = .returned (.bool b) := by rw [h]
theorem ret_int {k : IntKind} {a b : Int} (h : a = b) : Ending.returned (.int k a) = .returned (.int k b) := by rw [h]
set_option maxHeartbeats 400000 in
theorem whole_any (h l : Int) (w : World) (h0 : 0 ≤ h) (h1 : h < 65521) (l0 : 0 ≤ l) (l1 : l < 65521) :
    Calls Try.prog 86 #[.int .i64 h, .int .i64 l] w fun e w' => e = .returned (.int .i64 (h * 65536 + l)) ∧ w = w' := by
  go_enter Try.func86, Try.ntmps86
  go_wp2
  go_ret
  exact ⟨rfl, rfl⟩
set_option maxHeartbeats 400000 in
theorem halves_yes (n : Int) (w : World) (h : 0 ≤ n) (h1 : n / 65536 < 65521) (h2 : n % 65536 < 65521) :
    Calls Try.prog 85 #[.int .i64 n] w fun e w' => e = .returned (.tuple #[.int .i64 (n / 65536), .int .i64 (n % 65536), .bool true]) ∧ w = w' := by
  go_enter Try.func85, Try.ntmps85
  go_wp2
  go_ret3
  exact ⟨rfl, rfl⟩

set_option maxHeartbeats 400000 in
theorem halves_no (n : Int) (w : World) (hb : -9223372036854775808 ≤ n ∧ n ≤ 9223372036854775807) (h : ¬ SM.isSum n) :
    Calls Try.prog 85 #[.int .i64 n] w fun e w' => e = .returned (.tuple #[.int .i64 0, .int .i64 0, .bool false]) ∧ w = w' := by
  unfold SM.isSum at h
  by_cases h0 : n < 0
  · go_enter Try.func85, Try.ntmps85
    go_wp2
    go_ret3
    exact ⟨rfl, rfl⟩
  · by_cases h1 : n / 65536 < 65521
    · have h2 : 65521 ≤ n % 65536 := by omega
      clear h
      go_enter Try.func85, Try.ntmps85
      go_wp2
      go_ret3
      exact ⟨rfl, rfl⟩
    · clear h
      go_enter Try.func85, Try.ntmps85
      go_wp2
      go_ret3
      exact ⟨rfl, rfl⟩
set_option maxHeartbeats 400000 in
theorem roll_yes (n : Int) (s : ByteArray) (w : World) (h : SM.isSum n) (hs : s.size ≤ maxLen) :
    Calls Try.prog 78 #[.int .i64 n, .string s] w fun e w' => e = .returned (.int .i64 (SM.rollF n s.data.toList)) ∧ w = w' := by
  unfold maxLen at hs
  have hok := SM.ok_of_isSum h
  have hF : Hid (SM.rollF n s.data.toList = (SM.steps (n / 65536, n % 65536) s.data.toList).1 * 65536 + (SM.steps (n / 65536, n % 65536) s.data.toList).2) := by
    apply Lib.hid; unfold SM.rollF; rw [if_pos h]
  unfold SM.isSum at h
  obtain ⟨g0, g1, g2⟩ := h
  go_enter Try.func78, Try.ntmps78
  go_wp2_with (go_at_call 85; refine (halves_yes _ _ (by omega) (by omega) (by omega)).mono ?_; rintro e w' ⟨rfl, rfl⟩)
  go_loop [5, 6, 19] (fun a b i => ∃ k : Nat, k ≤ s.size ∧ i = .int .i64 k ∧ a = .int .i64 (SM.steps (n / 65536, n % 65536) (s.data.toList.take k)).1 ∧ b = .int .i64 (SM.steps (n / 65536, n % 65536) (s.data.toList.take k)).2) (fun _ _ i => s.size - (intOf i).toNat)
  case atStart => exact ⟨0, Nat.zero_le _, rfl, rfl, rfl⟩
  case round =>
    obtain ⟨k, hk, rfl, rfl, rfl⟩ := hrel
    have hp := SM.steps_ok (s.data.toList.take k) hok
    generalize hq : SM.steps (n / 65536, n % 65536) (s.data.toList.take k) = q at *
    obtain ⟨a, b⟩ := q
    unfold SM.Ok at hp
    simp only at hp
    obtain ⟨p0, p1, p2, p3⟩ := hp
    have HQ := Lib.hid hq; clear hq
    by_cases hlt : k < s.size
    · have hc : (s[k].toNat : Int) < 256 := by have := s[k].toNat_lt; omega
      go_wp2
      go_round
      case rel => exact ⟨k + 1, by omega, by go_num, by rw [SM.take_snoc s k hlt, SM.steps_snoc, HQ.out]; rfl, by rw [SM.take_snoc s k hlt, SM.steps_snoc, HQ.out]; rfl⟩
      case measure => simp [intOf]; omega
    · have hkk : k = s.size := by omega
      have hT : s.data.toList.take k = s.data.toList := List.take_of_length_le (by simp; omega)
      rw [hT] at HQ
      clear hT
      go_wp2_with (go_at_call 86; refine (whole_any _ _ _ (by omega) (by omega) (by omega) (by omega)).mono ?_; rintro e w' ⟨rfl, rfl⟩)
      go_ret
      exact ⟨ret_int (by rw [hF.out, HQ.out]), rfl⟩
set_option maxHeartbeats 400000 in
theorem roll_no (n : Int) (s : ByteArray) (w : World) (hb : -9223372036854775808 ≤ n ∧ n ≤ 9223372036854775807) (h : ¬ SM.isSum n) :
    Calls Try.prog 78 #[.int .i64 n, .string s] w fun e w' => e = .returned (.int .i64 (SM.rollF n s.data.toList)) ∧ w = w' := by
  have hF : Hid (SM.rollF n s.data.toList = 0) := by apply Lib.hid; unfold SM.rollF; rw [if_neg h]
  go_enter Try.func78, Try.ntmps78
  go_wp2_with (go_at_call 85; refine (halves_no _ _ hb h).mono ?_; rintro e w' ⟨rfl, rfl⟩)
  go_ret
  exact ⟨ret_int (by rw [hF.out]), rfl⟩
theorem roll_any (n : Int) (s : ByteArray) (w : World) (hb : -9223372036854775808 ≤ n ∧ n ≤ 9223372036854775807) (hs : s.size ≤ maxLen) :
    Calls Try.prog 78 #[.int .i64 n, .string s] w fun e w' => e = .returned (.int .i64 (SM.rollF n s.data.toList)) ∧ w = w' := by
  by_cases h : SM.isSum n
  · exact roll_yes n s w h hs
  · exact roll_no n s w hb h
set_option maxHeartbeats 400000 in
theorem of_any (s : ByteArray) (w : World) (hs : s.size ≤ maxLen) :
    Calls Try.prog 65 #[.string s] w fun e w' => e = .returned (.int .i64 (SM.rollF 1 s.data.toList)) ∧ w = w' := by
  go_enter Try.func65, Try.ntmps65
  go_wp2_with (go_at_call 78; refine (roll_any _ _ _ (by omega) hs).mono ?_; rintro e w' ⟨rfl, rfl⟩)
  go_ret
  exact ⟨rfl, rfl⟩
set_option maxHeartbeats 400000 in
theorem is_yes (n : Int) (w : World) (h : SM.isSum n) :
    Calls Try.prog 70 #[.int .i64 n] w fun e w' => e = .returned (.bool true) ∧ w = w' := by
  unfold SM.isSum at h
  obtain ⟨h0, h1, h2⟩ := h
  go_enter Try.func70, Try.ntmps70
  go_wp2
  go_ret
  exact ⟨ret_bool (by simp; omega), rfl⟩
set_option maxHeartbeats 400000 in
theorem is_no (n : Int) (w : World) (hb : -9223372036854775808 ≤ n ∧ n ≤ 9223372036854775807) (h : ¬ SM.isSum n) :
    Calls Try.prog 70 #[.int .i64 n] w fun e w' => e = .returned (.bool false) ∧ w = w' := by
  unfold SM.isSum at h
  by_cases h0 : n < 0
  · clear h
    go_enter Try.func70, Try.ntmps70
    go_wp2
    go_ret
    exact ⟨rfl, rfl⟩
  · by_cases h1 : n / 65536 ≤ 65520
    · have h2 : 65520 < n % 65536 := by omega
      clear h
      go_enter Try.func70, Try.ntmps70
      go_wp2
      go_ret
      exact ⟨ret_bool (by simp; omega), rfl⟩
    · clear h
      go_enter Try.func70, Try.ntmps70
      go_wp2
      go_ret
      exact ⟨rfl, rfl⟩
end SumW
end Go.Proofs.Ytnoegkhkeeameaa
