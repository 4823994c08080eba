/- Layer 8: the answers that the laws begin with. -/
import Derived.Test.YtgihkohggalefabGreatDoorMpP2
namespace Go.Proofs.YtgihkohggalefabGreatDoor.AM
open Go.RowKit
set_option linter.unusedVariables false
set_option linter.unusedSimpArgs false
theorem itoa_12 : Lib.itoa 12 = [49, 50] := by
  rw [itoa_rec (by decide), if_neg (by decide), show (12 : Int) / 10 = ((1 : Nat) : Int) from rfl, itoa_one (by decide)]; rfl
theorem itoa_2 : Lib.itoa 2 = [50] := itoa_one (i := 2) (by decide)
theorem majT_2 : majT 2 = [118, 50] := by unfold majT; rw [itoa_2]
theorem majT_12 : majT 12 = [118, 49, 50] := by unfold majT; rw [itoa_12]
theorem ok_major {s b : List UInt8} {n : Int} {o : Bool} (h : majorS s = (b, (n, o))) : okS s = o := by rw [← major_ok, h]
theorem mlive_true (n : Nat) (hn : 1000 ≤ n) : mlive_t n = some true := by
  have M : ∀ s : List UInt8, s.length ≤ 100 → mMajor_t n s = some (majorS s) := fun s h => mMajor_spec n s (by omega) (by omega)
  have C : ∀ s : List UInt8, s.length ≤ 100 → mCheck_t n s = some (okS s) := fun s h => mCheck_spec n s (by omega) (by omega)
  have F : ∀ (s : List UInt8) (v : VD), s.length ≤ 100 → mFits_t n s v = some (fitsS s v) := fun s v h => mFits_spec n s v (by omega) (by omega) (by omega)
  have W : ∀ (s d : List UInt8), s.length ≤ 100 → d.length ≤ 100 → mWithin_t n s d = some (withinS s d) := fun s d h h2 => mWithin_spec n s d (by omega) (by omega)
  have B : ∀ s : List UInt8, s.length ≤ 100 → mBase_t s = some (baseS s) := fun s h => if_pos (by omega)
  have m1 : majorS [101, 120, 47, 97, 47, 118, 49, 50] = ([101, 120, 47, 97], (12, true)) := by
    have := ok_some (x := [101, 120, 47, 97]) (n := 12) (by decide) (by decide) (by rw [majT_12]; decide +kernel) (by decide +kernel) (by decide)
    rw [majT_12] at this; exact this
  have m2 : majorS [101, 120, 47, 97] = ([101, 120, 47, 97], (0, true)) := ok_none (by decide +kernel) (by decide +kernel)
  have m3 : (majorS [101, 120, 47, 97, 47, 118, 49]).2.2 = false := by rw [major_ok]; decide +kernel
  have k1 : okS [101, 120, 47, 118, 97, 47, 118, 50, 120] = true := ok_major (ok_none (by decide +kernel) (by decide +kernel))
  have k2 : okS [118, 50] = false := by
    cases h : okS [118, 50] with
    | false => rfl
    | true => exact absurd ((ok_path h).2.2 (by decide +kernel)).2 (by decide +kernel)
  have k3 : okS [101, 120, 47, 118, 50, 47, 97] = false := by decide +kernel
  have k4 : okS [101, 120, 47, 118, 48, 50] = false := by
    cases h : okS [101, 120, 47, 118, 48, 50] with
    | false => rfl
    | true =>
      have h1 := ((ok_path h).2.2 (by decide +kernel)).1
      have e : (lastS [101, 120, 47, 118, 48, 50]).drop 1 = [48, 50] := by decide +kernel
      rw [e] at h1
      have e2 : Lib.atoiAll [48, 50] = .ok 2 := by rfl
      unfold fine at h1
      rw [e2] at h1
      have h2 : (decide ((2 : Int) ≤ 2) && (decide ((2 : Int) ≤ 999999999) && decide (([48, 50] : List UInt8) = Lib.itoa 2))) = true := h1
      rw [itoa_2] at h2
      exact absurd h2 (by decide)
  have m5 : majorS [101, 120, 47, 97, 47, 118, 50] = ([101, 120, 47, 97], (2, true)) := by
    have := ok_some (x := [101, 120, 47, 97]) (n := 2) (by decide) (by decide) (by rw [majT_2]; decide +kernel) (by decide +kernel) (by decide)
    rw [majT_2] at this; exact this
  have o2 := ok_major m2
  have o5 := ok_major m5
  have f1 : fitsS [101, 120, 47, 97, 47, 118, 50] (2, (0, (0, ([], [])))) = true := by unfold fitsS; rw [o5, m5]; decide +kernel
  have f2 : fitsS [101, 120, 47, 97, 47, 118, 50] (1, (0, (0, ([], [])))) = false := by unfold fitsS; rw [o5, m5]; decide +kernel
  have f3 : fitsS [101, 120, 47, 97] (1, (0, (0, ([], [])))) = true := by unfold fitsS; rw [o2, m2]; decide +kernel
  have f4 : fitsS [101, 120, 47, 97] (0, (0, (0, ([], [])))) = true := by unfold fitsS; rw [o2, m2]; decide +kernel
  have f5 : fitsS [101, 120, 47, 97] (2, (0, (0, ([], [])))) = false := by unfold fitsS; rw [o2, m2]; decide +kernel
  have w1 : withinS [97, 47, 98, 47, 99] [97, 47, 98] = true := by decide +kernel
  have w2 : withinS [97, 47, 98, 99] [97, 47, 98] = false := by decide +kernel
  have w3 : withinS [97] [] = true := by decide +kernel
  have b1 : baseS [97, 47, 98, 47, 99] = [97, 47, 98] := by decide +kernel
  have b2 : baseS [97] = [] := by decide +kernel
  unfold mlive_t
  rw [M _ (by decide), M _ (by decide), M _ (by decide), C _ (by decide), C _ (by decide), C _ (by decide), C _ (by decide), F _ _ (by decide), F _ _ (by decide), F _ _ (by decide), F _ _ (by decide), F _ _ (by decide), W _ _ (by decide) (by decide), W _ _ (by decide) (by decide), W _ _ (by decide) (by decide), B _ (by decide), B _ (by decide)]
  simp only [m1, m2, m3, k1, k2, k3, k4, f1, f2, f3, f4, f5, w1, w2, w3, b1, b2, Option.bind_some, decide_true, cond_true, Bool.not_false]
end Go.Proofs.YtgihkohggalefabGreatDoor.AM
