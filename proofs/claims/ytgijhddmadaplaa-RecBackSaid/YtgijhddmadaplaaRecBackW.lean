/- The walk of the law on what is cut, and joined again. -/
import Derived.Test.YtgijhddmadaplaaRecJ
import Derived.Test.YtgijhddmadaplaaRecBackM
namespace Go.Proofs.Ytgijhddmadaplaa
open Go.RowKit
namespace RecW
set_option maxHeartbeats 6400000 in
set_option maxRecDepth 100000 in
theorem back_big (w : World) (k g q z m : Int) (s : ByteArray) (size : Int) (hs : s.size ≤ maxLen) (hbig : 4096 < s.size) :
    Calls Try.prog 3 #[.agg #[.int .i64 k, .int .i64 g, .int .i64 q, .int .i64 z, .int .i64 m], .string s, .int .i64 size] w fun e w' => e = .returned (.bool true) ∧ Below w.heap.size w w' := by
  have hs' := Lib.hid hs
  unfold maxLen at hs
  by_cases hbig2 : (70000 : Int) < (s.size : Int)
  · go_enter Try.func3, Try.ntmps3
    go_wp2_with fail
    refine (live_any _).mono ?_; rintro e w' ⟨rfl, hb⟩
    go_wp2_with fail
    go_ret
    exact ⟨rfl, ((Below.refl _ _).alloc (Nat.le_refl _) _).trans (hb.mono (by simp))⟩
  · have hbi : (4096 : Int) < (s.size : Int) := by omega
    have hN := RM.cutN_big s hbig
    go_enter Try.func3, Try.ntmps3
    go_wp2_with fail
    refine (cut_any s _ hs'.out).mono ?_; rintro e w1 ⟨v, rfl, hown, b1⟩
    obtain ⟨a, cap, rfl, _⟩ := sv_len (RM.cutL_length s) (RM.SV.of_owns (RM.cutL_length s).symm hown)
    rw [hN]
    clear hown hN
    have B1 : Below w.heap.size w w1 := ((Below.refl _ _).alloc (Nat.le_refl _) _).trans (b1.mono (by simp))
    clear b1
    go_wp2_with fail
    refine (live_any _).mono ?_; rintro e w' ⟨rfl, hb⟩
    go_wp2_with fail
    go_ret
    exact ⟨rfl, B1.trans (hb.mono B1.size)⟩
theorem hat_of {w : World} {b B : Nat} {W : World} {k g q z m : Int} (h : Hat W b k g q z m) (hb : Below B W w) (hB : b < B) : Hat w b k g q z m := h.set hb hB
set_option maxHeartbeats 6400000 in
set_option maxRecDepth 100000 in
theorem back_small (w : World) (k g q z m : Int) (s : ByteArray) (size : Int) (T : ByteArray) (x : Bool) (hm : -9223372036854775808 ≤ m ∧ m ≤ 9223372036854775807) (hb : -9223372036854775808 ≤ size ∧ size ≤ 9223372036854775807) (hs : s.size ≤ 4096)
    (hT : RM.joinB (RM.cutL s) size = T) (hx : decide (RM.joinOk (RM.cutL s) size) = x) :
    Calls Try.prog 3 #[.agg #[.int .i64 k, .int .i64 g, .int .i64 q, .int .i64 z, .int .i64 m], .string s, .int .i64 size] w fun e w' => e = .returned (.bool true) ∧ Below w.heap.size w w' := by
  have hml : Hid (s.size ≤ maxLen) := Lib.hid (by unfold maxLen; omega)
  obtain ⟨N, hNn⟩ : ∃ N, RM.cutN s = N := ⟨_, rfl⟩
  have hNle : N ≤ 133 := by have := RM.cutN_le s; omega
  have hlen : Hid ((RM.cutL s).length = N) := Lib.hid (by rw [RM.cutL_length, hNn])
  have C0 : Hid (∀ w, Calls Try.prog 17 #[.int .i64 (s.size : Int)] w fun e w' => e = .returned (.int .i64 (N : Int)) ∧ w = w') := Lib.hid (fun w => by
    have h := count_any (s.size : Int) w (by omega)
    rw [RM.countF_cut s hs, hNn] at h
    exact h)
  have C1 : Hid (∀ w v, RM.SV w v (RM.cutL s) → Calls Try.prog 18 #[v, .int .i64 (s.size : Int)] w fun e w' => e = .returned (.tuple #[.string s, .bool true]) ∧ Below w.heap.size w w') := Lib.hid (fun w v hv => by
    have h := join_any (RM.cutL s) v (s.size : Int) w hv (by rw [hlen.out]; omega) (by omega)
    rw [RM.joinB_cut s hs, decide_eq_true (RM.joinOk_cut s hs)] at h
    exact h)
  have C2 : Hid (∀ w v, RM.SV w v (RM.cutL s) → Calls Try.prog 18 #[v, .int .i64 size] w fun e w' => e = .returned (.tuple #[.string T, .bool x]) ∧ Below w.heap.size w w') := Lib.hid (fun w v hv => by
    have h := join_any (RM.cutL s) v size w hv (by rw [hlen.out]; omega) hb
    rw [hT, hx] at h
    exact h)
  have C3 : Hid (x = true → size = (T.size : Int) ∧ ∀ w, Calls Try.prog 17 #[.int .i64 (T.size : Int)] w fun e w' => e = .returned (.int .i64 (N : Int)) ∧ w = w') := Lib.hid (fun h1 => by
    have h2 := RM.joinB_size (RM.cutL s) size (of_decide_eq_true (hx.trans h1))
    rw [hT] at h2
    refine ⟨h2.2.1.symm, fun w => ?_⟩
    have h := count_any (T.size : Int) w (by omega)
    rw [h2.2.1, h2.2.2, hlen.out] at h
    rw [h2.2.1]
    exact h)
  have C4 : Hid (∀ w j (h : j < (RM.cutL s).length), Calls Try.prog 19 #[.string (RM.cutL s)[j]] w fun e w' => e = .returned (.tuple #[.agg #[.int .i64 0, .int .i64 0, .int .i64 0, .int .i64 0, .int .i64 0], .bool false]) ∧ Below w.heap.size w w') := Lib.hid (fun w j hj => by
    have h := read_any (RM.cutL s)[j] w
    have hno := RM.cutL_not_head s _ (List.getElem_mem hj)
    rw [RM.readV_no _ hno, decide_eq_false hno] at h
    exact h)
  have C5 : Hid (∀ j (h : j < (RM.cutL s).length), (RM.cutL s)[j].size = 32) := Lib.hid (fun j hj => RM.cutL_size32 s _ (List.getElem_mem hj))
  obtain ⟨y, hy⟩ : ∃ y, decide (RM.may k g q z m) = y := ⟨_, rfl⟩
  obtain ⟨X, hX⟩ : ∃ X, RM.textB k g q z m = X := ⟨_, rfl⟩
  have C6 : Hid (∀ w, Calls Try.prog 20 #[.agg #[.int .i64 k, .int .i64 g, .int .i64 q, .int .i64 z, .int .i64 m]] w fun e w' => e = .returned (.tuple #[.string X, .bool y]) ∧ Below w.heap.size w w') := Lib.hid (fun w => by
    have h := text_any k g q z m w hm
    rw [hX, hy] at h
    exact h)
  have C7 : Hid (y = false → X = ⟨#[]⟩) := Lib.hid (fun h => by rw [← hX, RM.textB_no _ _ _ _ _ (of_decide_eq_false (hy.trans h))]; rfl)
  have C8 : Hid (y = true → ∀ w, Calls Try.prog 19 #[.string X] w fun e w' => e = .returned (.tuple #[.agg #[.int .i64 k, .int .i64 g, .int .i64 q, .int .i64 z, .int .i64 m], .bool true]) ∧ Below w.heap.size w w') := Lib.hid (fun h1 w => by
    have h := read_any X w
    have hr := RM.read_text k g q z m (of_decide_eq_true (hy.trans h1))
    rw [hX] at hr
    rw [hr.2, decide_eq_true hr.1] at h
    exact h)
  have C9 : Hid (y = true → ∀ w v, RM.SV w v [X] → Calls Try.prog 18 #[v, .int .i64 5] w fun e w' => e = .returned (.tuple #[.string ⟨#[]⟩, .bool false]) ∧ Below w.heap.size w w') := Lib.hid (fun h1 w v hv => by
    have h := join_any [X] v 5 w hv (by simp) (by omega)
    have hr := RM.not_join k g q z m (of_decide_eq_true (hy.trans h1))
    rw [hX] at hr
    rw [RM.joinB_no _ _ hr, decide_eq_false hr] at h
    exact h)
  have HSS := Lib.hid hs
  have hsi : (s.size : Int) ≤ 4096 := by omega
  clear hs hT hx hy hX hNn hm
  have hx2 : x = false ∨ (x = true ∧ size = (T.size : Int)) := by
    cases x
    · exact Or.inl rfl
    · exact Or.inr ⟨rfl, (C3.out rfl).1⟩
  have HB := Lib.hid hb; clear hb
  rcases hx2 with rfl | ⟨rfl, rfl⟩
  all_goals
    go_enter Try.func3, Try.ntmps3
    go_wp2_with fail
    refine (cut_any s _ hml.out).mono ?_; rintro e w1 ⟨v, rfl, hown, b1⟩
    have SV1 := RM.SV.of_owns (RM.cutL_length s).symm hown
    obtain ⟨a, cap, rfl, _⟩ := sv_len hlen.out SV1
    have SV1 := Lib.hid SV1
    have K1 : Hid (Hat w1 w.heap.size k g q z m) := Lib.hid (Hat.below ⟨by simp, by go_simp, by go_simp, by go_simp, by go_simp, by go_simp⟩ b1)
    have B1 : Below w.heap.size w w1 := ((Below.refl _ _).alloc (Nat.le_refl _) _).trans (b1.mono (by simp))
    clear hown b1
    go_wp2_with fail
    refine (C0.out _).mono ?_; rintro e w2 ⟨rfl, rfl⟩
    go_wp2_with fail
    refine (C1.out _ _ SV1.out).mono ?_; rintro e w2 ⟨rfl, b2⟩
    have SV2 := Lib.hid (SV1.out.below b2)
    have K2 := Lib.hid (K1.out.below b2)
    have B2 : Below w.heap.size w w2 := B1.trans (b2.mono B1.size)
    clear b2 SV1 K1 B1
    go_wp2_with fail
    refine (C2.out _ _ SV2.out).mono ?_; rintro e w3 ⟨rfl, b3⟩
    have SV3 := Lib.hid (SV2.out.below b3)
    have K3 := Lib.hid (K2.out.below b3)
    have B3 : Below w.heap.size w w3 := B2.trans (b3.mono B2.size)
    clear b3 SV2 K2 B2
    go_wp2_with (go_at_call 17; refine ((C3.out (by trivial)).2 _).mono ?_; rintro e w4 ⟨rfl, rfl⟩)
    go_loopw [12] (fun i wr => ∃ j : Nat, j ≤ N ∧ i = .int .i64 j ∧ RM.SV wr (.slice a N cap) (RM.cutL s) ∧ Hat wr w.heap.size k g q z m ∧ Below w.heap.size w wr) (fun i _ => N - (intOf i).toNat)
    case atStart => exact ⟨0, Nat.zero_le _, rfl, SV3.out, K3.out, B3⟩
    case round =>
      clear SV3 K3 B3
      obtain ⟨j, hj, rfl, SV4, K4, B4⟩ := hrel
      have K4 := Lib.hid K4
      by_cases hlt : j < N
      · have hjl : j < (RM.cutL s).length := by rw [hlen.out]; exact hlt
        obtain ⟨a', cap', he, hc⟩ := SV4
        have SV4 : Hid (RM.SV wr (.slice a N cap) (RM.cutL s)) := Lib.hid ⟨a', cap', he, hc⟩
        simp only [Value.slice.injEq] at he
        obtain ⟨he, hn1, hcap1⟩ := he
        clear hn1 hcap1
        obtain ⟨gb, off, ha, hgb, hcs⟩ := hc (by omega)
        rw [ha] at he
        clear ha hc
        obtain rfl := he
        have x4 : wr.cell? ⟨gb, off + j, none⟩ = some (.string (RM.cutL s)[j]) := hcs j hjl
        have C4j := Lib.hid (fun w => C4.out w j hjl)
        have hz := C5.out j hjl
        generalize (RM.cutL s)[j] = X1 at x4 C4j hz
        clear hcs
        have hz1 : (X1.size : Int) = 32 := by omega
        have hki : (j : Int) < (N : Int) := by omega
        go_wp2_with fail
        refine (C4j.out _).mono ?_; rintro e w5 ⟨rfl, b5⟩
        have x5 : w5.cell? ⟨gb, off + j, none⟩ = some (.string X1) := (b5.cell (p := ⟨gb, off + j, none⟩) hgb).trans x4
        have SV5 := Lib.hid (SV4.out.below b5)
        have K5 := Lib.hid (K4.out.below b5)
        have B5 : Below w.heap.size w w5 := B4.trans (b5.mono B4.size)
        have s5 := b5.size
        have hg5 : gb < w5.heap.size := by omega
        clear b5 x4 SV4 K4 B4
        go_wp2_with fail
        go_roundw
        case rel => exact ⟨j + 1, by omega, by go_num, SV5.out.below ((Below.refl _ _).alloc (Nat.le_refl _) _), K5.out.below ((Below.refl _ _).alloc (Nat.le_refl _) _), B5.trans ((Below.refl _ _).alloc B5.size _)⟩
        case measure => simp [intOf]; omega
      · have hkk : j = N := by omega
        subst hkk
        have SV4 := Lib.hid SV4
        obtain ⟨_, p0, p1, p2, p3, p4⟩ := K4.out
        cases y
        · have hX := C7.out rfl
          subst hX
          go_wp2_with fail
          refine (C6.out _).mono ?_; rintro e w5 ⟨rfl, b5⟩
          have B5 : Below w.heap.size w w5 := B4.trans (b5.mono B4.size)
          clear b5 p0 p1 p2 p3 p4
          go_wp2_with fail
          refine (live_any _).mono ?_; rintro e w6 ⟨rfl, b6⟩
          have B6 : Below w.heap.size w w6 := B5.trans (b6.mono B5.size)
          go_wp2_with fail
          go_ret
          exact ⟨rfl, B6⟩
        · go_wp2_with fail
          refine (C6.out _).mono ?_; rintro e w5 ⟨rfl, b5⟩
          have K5 := Lib.hid (K4.out.below b5)
          have B5 : Below w.heap.size w w5 := B4.trans (b5.mono B4.size)
          clear b5 p0 p1 p2 p3 p4 K4
          go_wp2_with fail
          refine (C8.out (by trivial) _).mono ?_; rintro e w6 ⟨rfl, b6⟩
          have K6 := Lib.hid (K5.out.below b6)
          have B6 : Below w.heap.size w w6 := B5.trans (b6.mono B5.size)
          have s6 : w.heap.size < w6.heap.size := K6.out.1
          clear b6 K5 B5
          go_wp2_with fail
          refine (C9.out (by trivial) _ _ ?_).mono ?_
          · exact ⟨_, 1, rfl, fun _ => ⟨_, 0, rfl, by simp, fun j hj => by
              obtain rfl : j = 0 := by simpa using hj
              go_simp⟩⟩
          rintro e w7 ⟨rfl, b7⟩
          have KA : Hid (Hat w7 w6.heap.size k g q z m) := Lib.hid (Hat.below ⟨by simp; omega, by go_simp, by go_simp, by go_simp, by go_simp, by go_simp⟩ b7)
          have K7 : Hid (Hat w7 w.heap.size k g q z m) := Lib.hid ((K6.out.set (((Below.refl _ _).alloc (Nat.le_refl _) _).alloc (by simp) _) (by omega)).below b7)
          have B7 : Below w.heap.size w w7 := Below.trans (by repeat' first | (with_reducible exact B6) | (with_reducible refine Below.alloc ?_ ?_ _) | (with_reducible refine Below.setCell ?_ ?_ _) | omega | (simp <;> omega)) (b7.mono (by simp <;> omega))
          clear b7 K6 B6
          obtain ⟨_, p0, p1, p2, p3, p4⟩ := K7.out
          obtain ⟨_, a0, a1, a2, a3, a4⟩ := KA.out
          go_wp2_with fail
          refine (live_any _).mono ?_; rintro e w8 ⟨rfl, b8⟩
          have B8 : Below w.heap.size w w8 := B7.trans (b8.mono B7.size)
          go_wp2_with fail
          go_ret
          exact ⟨rfl, B8⟩
theorem back_walk (w : World) (k g q z m : Int) (s : ByteArray) (size : Int) (hm : -9223372036854775808 ≤ m ∧ m ≤ 9223372036854775807) (hs : s.size ≤ maxLen) (hb : -9223372036854775808 ≤ size ∧ size ≤ 9223372036854775807) :
    Calls Try.prog 3 #[.agg #[.int .i64 k, .int .i64 g, .int .i64 q, .int .i64 z, .int .i64 m], .string s, .int .i64 size] w fun e w' => e = .returned (.bool true) ∧ Below w.heap.size w w' := by
  by_cases h : 4096 < s.size
  · exact back_big w k g q z m s size hs h
  · exact back_small w k g q z m s size _ _ hm hb (by omega) rfl rfl
end RecW
end Go.Proofs.Ytgijhddmadaplaa
