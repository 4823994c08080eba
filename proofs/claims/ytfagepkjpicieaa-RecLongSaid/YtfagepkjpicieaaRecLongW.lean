/- The walk of the law on how many sectors a payload takes. -/
import Derived.Test.YtfagepkjpicieaaRecJ
namespace Go.Proofs.Ytfagepkjpicieaa
open Go.RowKit
namespace RM
theorem sec_list (s : ByteArray) (k : Nat) : (sec s k).data.toList = fillL (68 :: (s.data.toList.drop (31 * k)).take 31) := rfl
theorem sec_head (s : ByteArray) (k : Nat) (h : 0 < (sec s k).size) : (sec s k)[0] = 68 := rfl
theorem sec_part (s : ByteArray) (k e m : Nat) (he : e = min (31 * k + 31) s.size) (hk : 31 * k ≤ s.size) (hm : m = (s.extract (31 * k) e).size) : (sec s k).extract 1 (1 + m) = s.extract (31 * k) e := by
  have hs : s.data.toList.length = s.size := by simp
  rw [ByteArray.size_extract] at hm
  apply ByteArray.ext
  apply Array.ext'
  rw [ByteArray.data_extract, ByteArray.data_extract, Array.toList_extract, Array.toList_extract, List.extract, List.extract, sec_list, fillL]
  have e1 : (List.drop 1 ((68 :: List.take 31 (List.drop (31 * k) s.data.toList)) ++ List.replicate (32 - (68 :: List.take 31 (List.drop (31 * k) s.data.toList)).length) 0)) = List.take 31 (List.drop (31 * k) s.data.toList) ++ List.replicate (32 - (68 :: List.take 31 (List.drop (31 * k) s.data.toList)).length) 0 := rfl
  rw [e1, show 1 + m - 1 = m from by omega]
  have hl : (List.take 31 (List.drop (31 * k) s.data.toList)).length = m := by simp; omega
  rw [List.take_append_of_le_length (by omega), List.take_of_length_le (by omega)]
  subst he
  by_cases h : 31 * k + 31 ≤ s.size
  · rw [Nat.min_eq_left h, show 31 * k + 31 - 31 * k = 31 from by omega]
  · rw [Nat.min_eq_right (by omega), List.take_of_length_le (by simp; omega), List.take_of_length_le (by simp)]
theorem cutL_get (s : ByteArray) (k : Nat) (h : k < (cutL s).length) : (cutL s)[k] = sec s k := by simp [cutL]
end RM
namespace RecW
set_option maxHeartbeats 3200000 in
set_option maxRecDepth 100000 in
theorem long_walk (w : World) (s : ByteArray) (ws : s.size ≤ maxLen) :
    Calls Try.prog 7 #[.string s] w fun e w' => e = .returned (.bool true) ∧ Below w.heap.size w w' := by
  have ws' := Lib.hid ws
  unfold maxLen at ws
  by_cases hbig : (4096 : Int) < (s.size : Int)
  · go_enter Try.func7, Try.ntmps7
    go_wp2_with fail
    refine (live_any _).mono ?_; rintro e w' ⟨rfl, hb⟩
    go_wp2_with fail
    go_ret
    exact ⟨rfl, hb⟩
  · have hN : RM.cutN s = (s.size + 30) / 31 := by unfold RM.cutN; rw [if_pos (by omega)]
    have hC : RM.countF (s.size : Int) = (RM.cutN s : Int) := by unfold RM.countF; rw [if_pos (by omega), hN]; omega
    go_enter Try.func7, Try.ntmps7
    go_wp2_with fail
    refine (cut_any s _ ws'.out).mono ?_
    rintro e w1 ⟨v, rfl, hown, hb1⟩
    obtain ⟨a, cap, rfl, hcs⟩ := sv_len (RM.cutL_length s) (RM.SV.of_owns (RM.cutL_length s).symm hown)
    have HCS := Lib.hid hcs
    clear hown hcs
    have hle := RM.cutN_le s
    obtain ⟨N, hNn⟩ : ∃ N, N = RM.cutN s := ⟨_, rfl⟩
    have HNN := Lib.hid hNn
    rw [← hNn] at hN hC hle ⊢
    have g1 : (s.size : Int) ≤ 31 * (N : Int) := by omega
    have g2 : 0 < N → (31 * ((N : Int) - 1) < (s.size : Int)) := by omega
    have G2 := Lib.hid g2
    have HN := Lib.hid hN
    have hN0 : (N : Int) ≤ 133 := by omega
    clear hNn hN g2
    go_wp2_with fail
    refine (count_any _ _ (by omega)).mono ?_; rintro e w' ⟨rfl, rfl⟩
    have hcase : N = 0 ∨ (0 < (N : Int) ∧ 31 * ((N : Int) - 1) < (s.size : Int)) := by
      have := G2.out; omega
    rcases hcase with h0 | ⟨h0, h0'⟩
    · have h0i : (N : Int) ≤ 0 := by omega
      have hN1 : ¬ (0 : Int) < (N : Int) := by omega
      clear h0
      go_wp2_with fail
      go_loop [5] (fun i => i = .int .i64 0) (fun _ => 0)
      case atStart => rfl
      case round =>
        subst hrel
        go_wp2_with fail
        refine (live_any _).mono ?_; rintro e w2 ⟨rfl, hb2⟩
        go_wp2_with fail
        go_ret
        exact ⟨rfl, hb1.trans (hb2.mono hb1.size)⟩
    · go_wp2_with fail
      go_loop [5] (fun i => ∃ k : Nat, k ≤ N ∧ i = .int .i64 k) (fun i => N - (intOf i).toNat)
      case atStart => exact ⟨0, Nat.zero_le _, rfl⟩
      case round =>
        obtain ⟨k, hk, rfl⟩ := hrel
        by_cases hlt : k < N
        · have hkc : k < (RM.cutL s).length := by rw [RM.cutL_length, ← HNN.out]; exact hlt
          obtain ⟨g, off, rfl, hcs⟩ := HCS.out (by rw [← HNN.out]; omega)
          have x3 : w1.cell? ⟨g, off + k, none⟩ = some (.string (RM.sec s k)) := by rw [← RM.cutL_get s k hkc]; exact hcs k hkc
          clear hcs HCS
          have hki : (k : Int) < (N : Int) := by omega
          have hk31 : 31 * k < s.size := (RM.cutN_in s k (by rw [← HNN.out]; exact hlt)).1
          obtain ⟨b0, hb0⟩ : ∃ b0, b0 = 31 * k := ⟨_, rfl⟩
          obtain ⟨e0, he0⟩ : ∃ e0, e0 = min (31 * k + 31) s.size := ⟨_, rfl⟩
          have he1 : b0 ≤ e0 := by omega
          have he2 : e0 ≤ s.size := by omega
          have hmul : 31 * (k : Int) = (b0 : Int) := by omega
          have hmin : min ((b0 : Int) + 31) (s.size : Int) = (e0 : Int) := by omega
          have hz := RM.sec_size s k
          have hpt := RM.sec_part s k e0 (s.extract b0 e0).size he0 (by omega) (by rw [hb0])
          have hhd := RM.sec_head s k (by rw [hz]; decide)
          rw [← hb0] at hpt
          have hpz : (s.extract b0 e0).size ≤ 31 := by rw [ByteArray.size_extract]; omega
          generalize hX : RM.sec s k = x at *
          generalize hP : s.extract b0 e0 = P at *
          obtain ⟨m, hm⟩ : ∃ m, P.size = m := ⟨_, rfl⟩
          obtain ⟨q, hq⟩ : ∃ q, q = 1 + m := ⟨_, rfl⟩
          rw [hm] at hpt hpz
          have hq1 : (1 : Int) + (m : Int) = (q : Int) := by omega
          have hq2 : 1 ≤ q := by omega
          have hq3 : q ≤ 32 := by omega
          have hq4 : 0 < q := by omega
          have hq5 : (1 : Int) ≤ (q : Int) := by omega
          have hq6 : (q : Int) ≤ 32 := by omega
          have hq7 : (q : Int) ≤ (x.size : Int) := by omega
          rw [← hq] at hpt
          clear hq
          have hz1 : (x.size : Int) = 32 := by omega
          have hz2 : 0 < x.size := by omega
          clear hX he0 hb0 hk31
          go_wp2_with fail
          go_round
          case rel => exact ⟨k + 1, by omega, by go_num⟩
          case measure => simp [intOf]; omega
        · have hkk : k = N := by omega
          subst hkk
          go_wp2_with fail
          refine (live_any _).mono ?_; rintro e w2 ⟨rfl, hb2⟩
          go_wp2_with fail
          go_ret
          exact ⟨rfl, hb1.trans (hb2.mono hb1.size)⟩
end RecW
end Go.Proofs.Ytfagepkjpicieaa
