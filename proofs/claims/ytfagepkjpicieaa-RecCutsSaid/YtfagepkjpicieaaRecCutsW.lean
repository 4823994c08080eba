/- The walk of the law on sectors. -/
import Derived.Test.YtfagepkjpicieaaRecK
namespace Go.Proofs.Ytfagepkjpicieaa
open Go.RowKit
namespace RecW
set_option maxHeartbeats 6400000 in
set_option maxRecDepth 100000 in
theorem cuts_walk (w : World) (s : ByteArray) (v : Value) (l : List ByteArray) (size : Int) (hs : s.size ≤ maxLen) (hv : RM.SV w v l) (hl : l.length ≤ maxLen) (hz : ∀ j (h : j < l.length), l[j].size ≤ maxLen) (hb : -9223372036854775808 ≤ size ∧ size ≤ 9223372036854775807) :
    Calls Try.prog 4 #[.string s, v, .int .i64 size] w fun e w' => e = .returned (.bool true) ∧ Below w.heap.size w w' := by
  have HV := Lib.hid hv
  have HS := Lib.hid hs
  unfold maxLen at hl hs
  have HZ := Lib.hid hz; clear hz
  obtain ⟨a, cap, rfl, hcells⟩ := hv
  by_cases hbig : (70000 : Int) < (s.size : Int)
  · go_enter Try.func4, Try.ntmps4
    go_wp2_with fail
    refine (live_any _).mono ?_; rintro e w' ⟨rfl, hb⟩
    go_wp2_with fail
    go_ret
    exact ⟨rfl, hb⟩
  by_cases hbig2 : (300 : Int) < (l.length : Int)
  · go_enter Try.func4, Try.ntmps4
    go_wp2_with fail
    refine (live_any _).mono ?_; rintro e w' ⟨rfl, hb⟩
    go_wp2_with fail
    go_ret
    exact ⟨rfl, hb⟩
  go_enter Try.func4, Try.ntmps4
  go_wp2_with fail
  go_loop [7] (fun i => ∃ k : Nat, k ≤ l.length ∧ i = .int .i64 k) (fun i => l.length - (intOf i).toNat)
  case atStart => exact ⟨0, Nat.zero_le _, rfl⟩
  case round =>
    obtain ⟨k, hk, rfl⟩ := hrel
    by_cases hkl : k < l.length
    · obtain ⟨g, off, rfl, hg, hcs⟩ := hcells (by omega)
      have hcx : w.cell? ⟨g, off + k, none⟩ = some (.string l[k]) := hcs k hkl
      have hzk := HZ.out k hkl
      unfold maxLen at hzk
      clear hcs hcells
      generalize l[k] = x at *
      by_cases h100 : (100 : Int) < (x.size : Int)
      · go_wp2_with fail
        refine (live_any _).mono ?_; rintro e w' ⟨rfl, hb⟩
        go_wp2_with fail
        go_ret
        exact ⟨rfl, hb⟩
      · go_wp2_with fail
        go_round
        case rel => exact ⟨k + 1, by omega, by go_num⟩
        case measure => simp [intOf]; omega
    · have hkk : k = l.length := by omega
      subst hkk
      clear hcells
      obtain ⟨J, hJ⟩ : ∃ J, RM.joinB l size = J := ⟨_, rfl⟩
      obtain ⟨x1, hx1⟩ : ∃ x, decide (RM.joinOk l size) = x := ⟨_, rfl⟩
      go_wp2_with fail
      refine (join_any l _ size _ HV.out (by omega) hb).mono ?_; rintro e w1 ⟨rfl, b1⟩
      have V1 := Lib.hid (HV.out.below b1)
      rw [hJ, hx1]
      go_wp2_with fail
      refine (rjoin_any l _ size _ V1.out (by omega) hb).mono ?_; rintro e w2 ⟨rfl, b2⟩
      rw [hJ, hx1]
      have B2 : Below w.heap.size w w2 := b1.trans (b2.mono b1.size)
      have s2 := B2.size
      clear b1 b2 V1
      go_wp2_with fail
      refine (cut_any s _ HS.out).mono ?_; rintro e w3 ⟨v3, rfl, h3, b3⟩
      have S3 := Lib.hid (RM.SV.of_owns (RM.cutL_length s).symm h3)
      have B3 : Below w.heap.size w w3 := B2.trans (b3.mono s2)
      have s3 := B3.size
      clear h3 b3 B2
      go_wp2_with fail
      refine (rcut_any s _ HS.out).mono ?_; rintro e w4 ⟨v4, rfl, h4, b4⟩
      have S4 := Lib.hid (RM.SV.of_owns (RM.cutL_length s).symm h4)
      have S34 := Lib.hid (S3.out.below b4)
      have B4 : Below w.heap.size w w4 := B3.trans (b4.mono s3)
      have s4 := B4.size
      have hle := RM.cutN_le s
      clear h4 b4 B3 S3
      go_wp2_with fail
      refine (same_any _ _ _ _ _ S34.out S4.out (by rw [RM.cutL_length]; omega) (by rw [RM.cutL_length]; omega)).mono ?_; rintro e w5 ⟨rfl, m, rfl⟩
      have ht : decide (RM.cutL s = RM.cutL s) = true := by simp
      go_wp2_with fail
      refine (count_any _ _ hb).mono ?_; rintro e w6 ⟨rfl, rfl⟩
      go_wp2_with fail
      refine (rcount_any _ _ hb).mono ?_; rintro e w6 ⟨rfl, rfl⟩
      go_wp2_with fail
      refine (live_any _).mono ?_; rintro e w7 ⟨rfl, b7⟩
      have B7 : Below w.heap.size w w7 := Below.trans (Lib.below_drewN B4 _) (b7.mono s4)
      go_wp2_with fail
      go_ret
      exact ⟨rfl, B7⟩
end RecW
end Go.Proofs.Ytfagepkjpicieaa
