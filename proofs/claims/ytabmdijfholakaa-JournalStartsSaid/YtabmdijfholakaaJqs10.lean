/- The contracts of package rec: counts; a head that is read. -/
import Derived.Test.YtabmdijfholakaaJqs9
import Derived.Test.YtabmdijfholakaaJqs8
import Derived.Deep.DrawnRows
namespace Go.Proofs.Ytabmdijfholakaa
open Go.RowKit
attribute [local go_sem ↓] Go.wp_at_zero Go.wp_at_succ
namespace RecW
set_option maxHeartbeats 400000 in
theorem count_any (n : Int) (w : World) (hb : -9223372036854775808 ≤ n ∧ n ≤ 9223372036854775807) :
    Calls Try.prog 34 #[.int .i64 n] w fun e w' => e = .returned (.int .i64 (RM.countF n)) ∧ w = w' := by
  by_cases h0 : n < 0
  · go_enter Try.func34, Try.ntmps34
    go_wp2
    go_ret
    exact ⟨SumW.ret_int (by unfold RM.countF; rw [if_neg (by omega)]), rfl⟩
  · by_cases h1 : 4096 < n
    · go_enter Try.func34, Try.ntmps34
      go_wp2
      go_ret
      exact ⟨SumW.ret_int (by unfold RM.countF; rw [if_neg (by omega)]), rfl⟩
    · go_enter Try.func34, Try.ntmps34
      go_wp2
      go_ret
      exact ⟨SumW.ret_int (by unfold RM.countF; rw [if_pos (by omega)]; omega), rfl⟩
theorem number_at (s : ByteArray) (k : Nat) (w : World) (h : s.size = 32) (hk : k + 4 ≤ 32) :
    Calls Try.prog 50 #[.string (s.extract k 32)] w fun e w' => e = .returned (.int .i64 (RM.numAt s k)) ∧ ∃ m, w' = w.drewN m := by
  have := number_any (s.extract k 32) w (by rw [ByteArray.size_extract]; omega)
  rw [RM.num_extract s k h hk] at this
  exact this
theorem text_any (k g q z m : Int) (w : World) (hb : -9223372036854775808 ≤ m ∧ m ≤ 9223372036854775807) :
    Calls Try.prog 51 #[.agg #[.int .i64 k, .int .i64 g, .int .i64 q, .int .i64 z, .int .i64 m]] w fun e w' => e = .returned (.tuple #[.string (RM.textB k g q z m), .bool (decide (RM.may k g q z m))]) ∧ Below w.heap.size w w' := by
  by_cases h : RM.may k g q z m
  · exact text_yes k g q z m w hb h
  · exact text_no k g q z m w hb h
theorem E1_of (s : ByteArray) (h : 1 < s.size) : wrap64 (s[1].toNat : Int) = RM.kindF s := by
  have := s[1].toNat_lt
  rw [RM.wrap_small _ (by omega) (by omega)]
  unfold RM.kindF
  simp [List.getD, h]
  rfl
set_option maxHeartbeats 3200000 in
set_option maxRecDepth 100000 in
theorem read_32 (s : ByteArray) (w : World) (h : s.size = 32) :
    Calls Try.prog 28 #[.string s] w fun e w' => e = .returned (.tuple #[RM.readV s, .bool (decide (RM.readOk s))]) ∧ Below w.heap.size w w' := by
  have hz : (s.size : Int) = 32 := by omega
  have i1 : (1 : Int) < (s.size : Int) := by omega
  have j1 : 1 < s.size := by omega
  have E1 := Lib.hid (E1_of s j1)
  have hbm : -9223372036854775808 ≤ RM.numAt s 14 ∧ RM.numAt s 14 ≤ 9223372036854775807 := by have := RM.num_lt s.data.toList 14; unfold RM.numAt; omega
  go_enter Try.func28, Try.ntmps28
  go_wp2_with fail
  refine wp_region_noPanic ?_
  refine wp_region_held_drew (S := (fun _ => True)) (by kernel_rfl) ?_ (fun hHeld => ?_)
  · (first | (dsimp only; done) | trivial)
  refine Lib.take_l (i := 0) (v := ?_) rfl (by kernel_rfl) (by kernel_rfl) (by kernel_rfl) (fun _ _ _ h => h) (Or.inl ⟨by rfl, ?_⟩) (by assumption) ?_; rotate_left; (· (intro w' hSw; (try dsimp only at hSw); go_simp; (try with_reducible rfl))); (try simp only [Act.put, List.setIfInBounds_toArray, List.set_cons_zero, List.set_cons_succ])
  refine Lib.take_l (i := 1) (v := ?_) rfl (by kernel_rfl) (by kernel_rfl) (by kernel_rfl) (fun _ _ _ h => h) (Or.inl ⟨by rfl, ?_⟩) (by assumption) ?_; rotate_left; (· (intro w' hSw; (try dsimp only at hSw); go_simp; (try with_reducible rfl))); (try simp only [Act.put, List.setIfInBounds_toArray, List.set_cons_zero, List.set_cons_succ])
  refine Lib.take_l (i := 2) (v := ?_) rfl (by kernel_rfl) (by kernel_rfl) (by kernel_rfl) (fun _ _ _ h => h) (Or.inl ⟨by rfl, ?_⟩) (by assumption) ?_; rotate_left; (· (intro w' hSw; (try dsimp only at hSw); go_simp; (try with_reducible rfl))); (try simp only [Act.put, List.setIfInBounds_toArray, List.set_cons_zero, List.set_cons_succ])
  refine Lib.take_l (i := 3) (v := ?_) rfl (by kernel_rfl) (by kernel_rfl) (by kernel_rfl) (fun _ _ _ h => h) (Or.inl ⟨by rfl, ?_⟩) (by assumption) ?_; rotate_left; (· (intro w' hSw; (try dsimp only at hSw); go_simp; (try with_reducible rfl))); (try simp only [Act.put, List.setIfInBounds_toArray, List.set_cons_zero, List.set_cons_succ])
  refine Lib.take_l (i := 4) (v := ?_) rfl (by kernel_rfl) (by kernel_rfl) (by kernel_rfl) (fun _ _ _ h => h) (Or.inl ⟨by rfl, ?_⟩) (by assumption) ?_; rotate_left; (· (intro w' hSw; (try dsimp only at hSw); go_simp; (try with_reducible rfl))); (try simp only [Act.put, List.setIfInBounds_toArray, List.set_cons_zero, List.set_cons_succ])
  refine Lib.take_l (i := 6) (v := ?_) rfl (by kernel_rfl) (by kernel_rfl) (by kernel_rfl) (fun _ _ _ h => h) (Or.inl ⟨by rfl, ?_⟩) (by assumption) ?_; rotate_left; (· (intro w' hSw; (try dsimp only at hSw); go_simp; (try with_reducible rfl))); (try simp only [Act.put, List.setIfInBounds_toArray, List.set_cons_zero, List.set_cons_succ])
  refine Lib.take_l (i := 7) (v := ?_) rfl (by kernel_rfl) (by kernel_rfl) (by kernel_rfl) (fun _ _ _ h => h) (Or.inl ⟨by rfl, ?_⟩) (by assumption) ?_; rotate_left; (· (intro w' hSw; (try dsimp only at hSw); go_simp; (try with_reducible rfl))); (try simp only [Act.put, List.setIfInBounds_toArray, List.set_cons_zero, List.set_cons_succ])
  refine Lib.take_l (i := 9) (v := ?_) rfl (by kernel_rfl) (by kernel_rfl) (by kernel_rfl) (fun _ _ _ h => h) (Or.inl ⟨by rfl, ?_⟩) (by assumption) ?_; rotate_left; (· (intro w' hSw; (try dsimp only at hSw); go_simp; (try with_reducible rfl))); (try simp only [Act.put, List.setIfInBounds_toArray, List.set_cons_zero, List.set_cons_succ])
  refine Lib.take_l (i := 10) (v := ?_) rfl (by kernel_rfl) (by kernel_rfl) (by kernel_rfl) (fun _ _ _ h => h) (Or.inl ⟨by rfl, ?_⟩) (by assumption) ?_; rotate_left; (· (intro w' hSw; (try dsimp only at hSw); go_simp; (try with_reducible rfl))); (try simp only [Act.put, List.setIfInBounds_toArray, List.set_cons_zero, List.set_cons_succ])
  refine Lib.take_l (i := 12) (v := ?_) rfl (by kernel_rfl) (by kernel_rfl) (by kernel_rfl) (fun _ _ _ h => h) (Or.inl ⟨by rfl, ?_⟩) (by assumption) ?_; rotate_left; (· (intro w' hSw; (try dsimp only at hSw); go_simp; (try with_reducible rfl))); (try simp only [Act.put, List.setIfInBounds_toArray, List.set_cons_zero, List.set_cons_succ])
  refine Lib.take_l (i := 13) (v := ?_) rfl (by kernel_rfl) (by kernel_rfl) (by kernel_rfl) (fun _ _ _ h => h) (Or.inl ⟨by rfl, ?_⟩) (by assumption) ?_; rotate_left; (· (intro w' hSw; (try dsimp only at hSw); go_simp; (try with_reducible rfl))); (try simp only [Act.put, List.setIfInBounds_toArray, List.set_cons_zero, List.set_cons_succ])
  refine wpAnyH_ready (rs := [5, 16]) (by kernel_rfl) (by simp) (Lib.cons_l rfl (fun K hK => ?_) (Lib.cons_l rfl (fun K hK => ?_) AllReadyH.nil))
  · skip
    go_simp; refine (number_at s 2 _ h (by decide)).mono ?_; rintro e w' ⟨rfl, n0, rfl⟩; (try go_wp2_with fail)
    refine hK.out _ _ ?_ (fun hHeld => ?_); (· (first | (dsimp only; done) | trivial)); clear hK K; (try simp only [Act.put, List.setIfInBounds_toArray, List.set_cons_zero, List.set_cons_succ])
    refine wpAnyH_ready (rs := [8, 16]) (by kernel_rfl) (by simp) (Lib.cons_l rfl (fun K hK => ?_) (Lib.cons_l rfl (fun K hK => ?_) AllReadyH.nil))
    · skip
      go_simp; refine (number_at s 6 _ h (by decide)).mono ?_; rintro e w' ⟨rfl, n1, rfl⟩; (try go_wp2_with fail)
      refine hK.out _ _ ?_ (fun hHeld => ?_); (· (first | (dsimp only; done) | trivial)); clear hK K; (try simp only [Act.put, List.setIfInBounds_toArray, List.set_cons_zero, List.set_cons_succ])
      refine wpAnyH_ready (rs := [11, 16]) (by kernel_rfl) (by simp) (Lib.cons_l rfl (fun K hK => ?_) (Lib.cons_l rfl (fun K hK => ?_) AllReadyH.nil))
      · skip
        go_simp; refine (number_at s 10 _ h (by decide)).mono ?_; rintro e w' ⟨rfl, n2, rfl⟩; (try go_wp2_with fail)
        refine hK.out _ _ ?_ (fun hHeld => ?_); (· (first | (dsimp only; done) | trivial)); clear hK K; (try simp only [Act.put, List.setIfInBounds_toArray, List.set_cons_zero, List.set_cons_succ])
        refine wpAnyH_ready (rs := [14, 16]) (by kernel_rfl) (by simp) (Lib.cons_l rfl (fun K hK => ?_) (Lib.cons_l rfl (fun K hK => ?_) AllReadyH.nil))
        · skip
          go_simp; refine (number_at s 14 _ h (by decide)).mono ?_; rintro e w' ⟨rfl, n3, rfl⟩; (try go_wp2_with fail)
          refine hK.out _ _ ?_ (fun hHeld => ?_); (· (first | (dsimp only; done) | trivial)); clear hK K; (try simp only [Act.put, List.setIfInBounds_toArray, List.set_cons_zero, List.set_cons_succ])
          refine Lib.take_l (i := 15) (v := ?_) rfl (by kernel_rfl) (by kernel_rfl) (by kernel_rfl) (fun _ _ _ h => h) (Or.inl ⟨by rfl, ?_⟩) (by assumption) ?_; rotate_left; (· (intro w' hSw; (try dsimp only at hSw); go_simp; (try with_reducible rfl))); (try simp only [Act.put, List.setIfInBounds_toArray, List.set_cons_zero, List.set_cons_succ])
          refine wpAnyH_ready (rs := [16]) (by kernel_rfl) (by simp) (Lib.cons_l rfl (fun K hK => ?_) AllReadyH.nil)
          go_simp
          refine hK.out _ _ ?_ (fun hHeld => ?_); (· (first | (dsimp only; done) | trivial)); clear hK K; (try simp only [Act.put, List.setIfInBounds_toArray, List.set_cons_zero, List.set_cons_succ])
          refine wpAnyH_ready (rs := [17]) (by kernel_rfl) (by simp) (Lib.cons_l rfl (fun K hK => ?_) AllReadyH.nil)
          go_simp
          refine hK.out _ _ ?_ (fun hHeld => ?_); (· (first | (dsimp only; done) | trivial)); clear hK K; (try simp only [Act.put, List.setIfInBounds_toArray, List.set_cons_zero, List.set_cons_succ])
          refine wpAnyH_done (by kernel_rfl) ?_ _; refine NoPanic.normal ?_
          go_wp2_with fail
          rw [E1.out]
          refine (text_any _ _ _ _ _ _ hbm).mono ?_; rintro e w2 ⟨rfl, hb2⟩
          have hB2 : Below w.heap.size w w2 := Below.trans (by repeat' first | (with_reducible exact Below.refl _ _) | (with_reducible refine Lib.below_drewN ?_ _) | (with_reducible refine Below.drew ?_) | (with_reducible refine Below.alloc ?_ ?_ _) | (with_reducible refine Below.setCell ?_ ?_ _) | (simp <;> omega)) (hb2.mono (by simp <;> omega))
          have q0 : w2.cell? ⟨w.heap.size, 0, none⟩ = some (.int .i64 0) := (hb2.cell (by first | omega | (simp <;> omega))).trans (by go_simp)
          have f0 : w2.frozen? ⟨w.heap.size, 0, none⟩ = false := (hb2.frozen (by first | omega | (simp <;> omega))).trans (by go_simp)
          have v0 : w2.cell? ⟨w.heap.size + 1, 0, none⟩ = some (.int .i64 (RM.kindF s)) := (hb2.cell (by first | omega | (simp <;> omega))).trans (by first | go_simp | (rw [← E1.out]; go_simp))
          have q1 : w2.cell? ⟨w.heap.size, 1, none⟩ = some (.int .i64 0) := (hb2.cell (by first | omega | (simp <;> omega))).trans (by go_simp)
          have f1 : w2.frozen? ⟨w.heap.size, 1, none⟩ = false := (hb2.frozen (by first | omega | (simp <;> omega))).trans (by go_simp)
          have v1 : w2.cell? ⟨w.heap.size + 1, 1, none⟩ = some (.int .i64 (RM.numAt s 2)) := (hb2.cell (by first | omega | (simp <;> omega))).trans (by first | go_simp | (rw [← E1.out]; go_simp))
          have q2 : w2.cell? ⟨w.heap.size, 2, none⟩ = some (.int .i64 0) := (hb2.cell (by first | omega | (simp <;> omega))).trans (by go_simp)
          have f2 : w2.frozen? ⟨w.heap.size, 2, none⟩ = false := (hb2.frozen (by first | omega | (simp <;> omega))).trans (by go_simp)
          have v2 : w2.cell? ⟨w.heap.size + 1, 2, none⟩ = some (.int .i64 (RM.numAt s 6)) := (hb2.cell (by first | omega | (simp <;> omega))).trans (by first | go_simp | (rw [← E1.out]; go_simp))
          have q3 : w2.cell? ⟨w.heap.size, 3, none⟩ = some (.int .i64 0) := (hb2.cell (by first | omega | (simp <;> omega))).trans (by go_simp)
          have f3 : w2.frozen? ⟨w.heap.size, 3, none⟩ = false := (hb2.frozen (by first | omega | (simp <;> omega))).trans (by go_simp)
          have v3 : w2.cell? ⟨w.heap.size + 1, 3, none⟩ = some (.int .i64 (RM.numAt s 10)) := (hb2.cell (by first | omega | (simp <;> omega))).trans (by first | go_simp | (rw [← E1.out]; go_simp))
          have q4 : w2.cell? ⟨w.heap.size, 4, none⟩ = some (.int .i64 0) := (hb2.cell (by first | omega | (simp <;> omega))).trans (by go_simp)
          have f4 : w2.frozen? ⟨w.heap.size, 4, none⟩ = false := (hb2.frozen (by first | omega | (simp <;> omega))).trans (by go_simp)
          have v4 : w2.cell? ⟨w.heap.size + 1, 4, none⟩ = some (.int .i64 (RM.numAt s 14)) := (hb2.cell (by first | omega | (simp <;> omega))).trans (by first | go_simp | (rw [← E1.out]; go_simp))
          clear hb2
          go_wp2_with fail
          · have hno := RM.read_bad s (by assumption) (by assumption)
            rw [RM.readV_no s hno, decide_eq_false hno]
            refine bodyPost_ret (results_hd rfl _ _ w.heap.size 0 0 0 0 0 rfl (by go_simp) (by go_simp) (by go_simp) (by go_simp) (by go_simp)) rfl ?_
            exact ⟨rfl, by repeat' first | (with_reducible exact hB2) | (with_reducible refine Below.setCell ?_ ?_ _) | omega | (simp <;> omega)⟩
          · have hyes := RM.read_good s h (by assumption) (by assumption)
            rw [RM.readV_yes s hyes, decide_eq_true hyes]
            refine bodyPost_ret (results_hd rfl _ _ w.heap.size (RM.kindF s) (RM.numAt s 2) (RM.numAt s 6) (RM.numAt s 10) (RM.numAt s 14) rfl (by go_simp) (by go_simp) (by go_simp) (by go_simp) (by go_simp)) rfl ?_
            exact ⟨rfl, by repeat' first | (with_reducible exact hB2) | (with_reducible refine Below.setCell ?_ ?_ _) | omega | (simp <;> omega)⟩
          · have hmay : ¬ RM.may (RM.kindF s) (RM.numAt s 2) (RM.numAt s 6) (RM.numAt s 10) (RM.numAt s 14) := by assumption
            have hno : ¬ RM.readOk s := fun x => hmay x.2.1
            rw [RM.readV_no s hno, decide_eq_false hno]
            refine bodyPost_ret (results_hd rfl _ _ w.heap.size 0 0 0 0 0 rfl (by go_simp) (by go_simp) (by go_simp) (by go_simp) (by go_simp)) rfl ?_
            exact ⟨rfl, by repeat' first | (with_reducible exact hB2) | (with_reducible refine Below.setCell ?_ ?_ _) | omega | (simp <;> omega)⟩
        · skip
          go_simp
          refine hK.out _ _ ?_ (fun hHeld => ?_); (· (first | (dsimp only; done) | trivial)); clear hK K; (try simp only [Act.put, List.setIfInBounds_toArray, List.set_cons_zero, List.set_cons_succ])
          refine wpAnyH_ready (rs := [14]) (by kernel_rfl) (by simp) (Lib.cons_l rfl (fun K hK => ?_) AllReadyH.nil)
          go_simp; refine (number_at s 14 _ h (by decide)).mono ?_; rintro e w' ⟨rfl, n3, rfl⟩; (try go_wp2_with fail)
          refine hK.out _ _ ?_ (fun hHeld => ?_); (· (first | (dsimp only; done) | trivial)); clear hK K; (try simp only [Act.put, List.setIfInBounds_toArray, List.set_cons_zero, List.set_cons_succ])
          refine Lib.take_l (i := 15) (v := ?_) rfl (by kernel_rfl) (by kernel_rfl) (by kernel_rfl) (fun _ _ _ h => h) (Or.inl ⟨by rfl, ?_⟩) (by assumption) ?_; rotate_left; (· (intro w' hSw; (try dsimp only at hSw); go_simp; (try with_reducible rfl))); (try simp only [Act.put, List.setIfInBounds_toArray, List.set_cons_zero, List.set_cons_succ])
          refine wpAnyH_ready (rs := [17]) (by kernel_rfl) (by simp) (Lib.cons_l rfl (fun K hK => ?_) AllReadyH.nil)
          go_simp
          refine hK.out _ _ ?_ (fun hHeld => ?_); (· (first | (dsimp only; done) | trivial)); clear hK K; (try simp only [Act.put, List.setIfInBounds_toArray, List.set_cons_zero, List.set_cons_succ])
          refine wpAnyH_done (by kernel_rfl) ?_ _; refine NoPanic.normal ?_
          go_wp2_with fail
          rw [E1.out]
          refine (text_any _ _ _ _ _ _ hbm).mono ?_; rintro e w2 ⟨rfl, hb2⟩
          have hB2 : Below w.heap.size w w2 := Below.trans (by repeat' first | (with_reducible exact Below.refl _ _) | (with_reducible refine Lib.below_drewN ?_ _) | (with_reducible refine Below.drew ?_) | (with_reducible refine Below.alloc ?_ ?_ _) | (with_reducible refine Below.setCell ?_ ?_ _) | (simp <;> omega)) (hb2.mono (by simp <;> omega))
          have q0 : w2.cell? ⟨w.heap.size, 0, none⟩ = some (.int .i64 0) := (hb2.cell (by first | omega | (simp <;> omega))).trans (by go_simp)
          have f0 : w2.frozen? ⟨w.heap.size, 0, none⟩ = false := (hb2.frozen (by first | omega | (simp <;> omega))).trans (by go_simp)
          have v0 : w2.cell? ⟨w.heap.size + 1, 0, none⟩ = some (.int .i64 (RM.kindF s)) := (hb2.cell (by first | omega | (simp <;> omega))).trans (by first | go_simp | (rw [← E1.out]; go_simp))
          have q1 : w2.cell? ⟨w.heap.size, 1, none⟩ = some (.int .i64 0) := (hb2.cell (by first | omega | (simp <;> omega))).trans (by go_simp)
          have f1 : w2.frozen? ⟨w.heap.size, 1, none⟩ = false := (hb2.frozen (by first | omega | (simp <;> omega))).trans (by go_simp)
          have v1 : w2.cell? ⟨w.heap.size + 1, 1, none⟩ = some (.int .i64 (RM.numAt s 2)) := (hb2.cell (by first | omega | (simp <;> omega))).trans (by first | go_simp | (rw [← E1.out]; go_simp))
          have q2 : w2.cell? ⟨w.heap.size, 2, none⟩ = some (.int .i64 0) := (hb2.cell (by first | omega | (simp <;> omega))).trans (by go_simp)
          have f2 : w2.frozen? ⟨w.heap.size, 2, none⟩ = false := (hb2.frozen (by first | omega | (simp <;> omega))).trans (by go_simp)
          have v2 : w2.cell? ⟨w.heap.size + 1, 2, none⟩ = some (.int .i64 (RM.numAt s 6)) := (hb2.cell (by first | omega | (simp <;> omega))).trans (by first | go_simp | (rw [← E1.out]; go_simp))
          have q3 : w2.cell? ⟨w.heap.size, 3, none⟩ = some (.int .i64 0) := (hb2.cell (by first | omega | (simp <;> omega))).trans (by go_simp)
          have f3 : w2.frozen? ⟨w.heap.size, 3, none⟩ = false := (hb2.frozen (by first | omega | (simp <;> omega))).trans (by go_simp)
          have v3 : w2.cell? ⟨w.heap.size + 1, 3, none⟩ = some (.int .i64 (RM.numAt s 10)) := (hb2.cell (by first | omega | (simp <;> omega))).trans (by first | go_simp | (rw [← E1.out]; go_simp))
          have q4 : w2.cell? ⟨w.heap.size, 4, none⟩ = some (.int .i64 0) := (hb2.cell (by first | omega | (simp <;> omega))).trans (by go_simp)
          have f4 : w2.frozen? ⟨w.heap.size, 4, none⟩ = false := (hb2.frozen (by first | omega | (simp <;> omega))).trans (by go_simp)
          have v4 : w2.cell? ⟨w.heap.size + 1, 4, none⟩ = some (.int .i64 (RM.numAt s 14)) := (hb2.cell (by first | omega | (simp <;> omega))).trans (by first | go_simp | (rw [← E1.out]; go_simp))
          clear hb2
          go_wp2_with fail
          · have hno := RM.read_bad s (by assumption) (by assumption)
            rw [RM.readV_no s hno, decide_eq_false hno]
            refine bodyPost_ret (results_hd rfl _ _ w.heap.size 0 0 0 0 0 rfl (by go_simp) (by go_simp) (by go_simp) (by go_simp) (by go_simp)) rfl ?_
            exact ⟨rfl, by repeat' first | (with_reducible exact hB2) | (with_reducible refine Below.setCell ?_ ?_ _) | omega | (simp <;> omega)⟩
          · have hyes := RM.read_good s h (by assumption) (by assumption)
            rw [RM.readV_yes s hyes, decide_eq_true hyes]
            refine bodyPost_ret (results_hd rfl _ _ w.heap.size (RM.kindF s) (RM.numAt s 2) (RM.numAt s 6) (RM.numAt s 10) (RM.numAt s 14) rfl (by go_simp) (by go_simp) (by go_simp) (by go_simp) (by go_simp)) rfl ?_
            exact ⟨rfl, by repeat' first | (with_reducible exact hB2) | (with_reducible refine Below.setCell ?_ ?_ _) | omega | (simp <;> omega)⟩
          · have hmay : ¬ RM.may (RM.kindF s) (RM.numAt s 2) (RM.numAt s 6) (RM.numAt s 10) (RM.numAt s 14) := by assumption
            have hno : ¬ RM.readOk s := fun x => hmay x.2.1
            rw [RM.readV_no s hno, decide_eq_false hno]
            refine bodyPost_ret (results_hd rfl _ _ w.heap.size 0 0 0 0 0 rfl (by go_simp) (by go_simp) (by go_simp) (by go_simp) (by go_simp)) rfl ?_
            exact ⟨rfl, by repeat' first | (with_reducible exact hB2) | (with_reducible refine Below.setCell ?_ ?_ _) | omega | (simp <;> omega)⟩
      · skip
        go_simp
        refine hK.out _ _ ?_ (fun hHeld => ?_); (· (first | (dsimp only; done) | trivial)); clear hK K; (try simp only [Act.put, List.setIfInBounds_toArray, List.set_cons_zero, List.set_cons_succ])
        refine wpAnyH_ready (rs := [11]) (by kernel_rfl) (by simp) (Lib.cons_l rfl (fun K hK => ?_) AllReadyH.nil)
        go_simp; refine (number_at s 10 _ h (by decide)).mono ?_; rintro e w' ⟨rfl, n2, rfl⟩; (try go_wp2_with fail)
        refine hK.out _ _ ?_ (fun hHeld => ?_); (· (first | (dsimp only; done) | trivial)); clear hK K; (try simp only [Act.put, List.setIfInBounds_toArray, List.set_cons_zero, List.set_cons_succ])
        refine wpAnyH_ready (rs := [14]) (by kernel_rfl) (by simp) (Lib.cons_l rfl (fun K hK => ?_) AllReadyH.nil)
        go_simp; refine (number_at s 14 _ h (by decide)).mono ?_; rintro e w' ⟨rfl, n3, rfl⟩; (try go_wp2_with fail)
        refine hK.out _ _ ?_ (fun hHeld => ?_); (· (first | (dsimp only; done) | trivial)); clear hK K; (try simp only [Act.put, List.setIfInBounds_toArray, List.set_cons_zero, List.set_cons_succ])
        refine Lib.take_l (i := 15) (v := ?_) rfl (by kernel_rfl) (by kernel_rfl) (by kernel_rfl) (fun _ _ _ h => h) (Or.inl ⟨by rfl, ?_⟩) (by assumption) ?_; rotate_left; (· (intro w' hSw; (try dsimp only at hSw); go_simp; (try with_reducible rfl))); (try simp only [Act.put, List.setIfInBounds_toArray, List.set_cons_zero, List.set_cons_succ])
        refine wpAnyH_ready (rs := [17]) (by kernel_rfl) (by simp) (Lib.cons_l rfl (fun K hK => ?_) AllReadyH.nil)
        go_simp
        refine hK.out _ _ ?_ (fun hHeld => ?_); (· (first | (dsimp only; done) | trivial)); clear hK K; (try simp only [Act.put, List.setIfInBounds_toArray, List.set_cons_zero, List.set_cons_succ])
        refine wpAnyH_done (by kernel_rfl) ?_ _; refine NoPanic.normal ?_
        go_wp2_with fail
        rw [E1.out]
        refine (text_any _ _ _ _ _ _ hbm).mono ?_; rintro e w2 ⟨rfl, hb2⟩
        have hB2 : Below w.heap.size w w2 := Below.trans (by repeat' first | (with_reducible exact Below.refl _ _) | (with_reducible refine Lib.below_drewN ?_ _) | (with_reducible refine Below.drew ?_) | (with_reducible refine Below.alloc ?_ ?_ _) | (with_reducible refine Below.setCell ?_ ?_ _) | (simp <;> omega)) (hb2.mono (by simp <;> omega))
        have q0 : w2.cell? ⟨w.heap.size, 0, none⟩ = some (.int .i64 0) := (hb2.cell (by first | omega | (simp <;> omega))).trans (by go_simp)
        have f0 : w2.frozen? ⟨w.heap.size, 0, none⟩ = false := (hb2.frozen (by first | omega | (simp <;> omega))).trans (by go_simp)
        have v0 : w2.cell? ⟨w.heap.size + 1, 0, none⟩ = some (.int .i64 (RM.kindF s)) := (hb2.cell (by first | omega | (simp <;> omega))).trans (by first | go_simp | (rw [← E1.out]; go_simp))
        have q1 : w2.cell? ⟨w.heap.size, 1, none⟩ = some (.int .i64 0) := (hb2.cell (by first | omega | (simp <;> omega))).trans (by go_simp)
        have f1 : w2.frozen? ⟨w.heap.size, 1, none⟩ = false := (hb2.frozen (by first | omega | (simp <;> omega))).trans (by go_simp)
        have v1 : w2.cell? ⟨w.heap.size + 1, 1, none⟩ = some (.int .i64 (RM.numAt s 2)) := (hb2.cell (by first | omega | (simp <;> omega))).trans (by first | go_simp | (rw [← E1.out]; go_simp))
        have q2 : w2.cell? ⟨w.heap.size, 2, none⟩ = some (.int .i64 0) := (hb2.cell (by first | omega | (simp <;> omega))).trans (by go_simp)
        have f2 : w2.frozen? ⟨w.heap.size, 2, none⟩ = false := (hb2.frozen (by first | omega | (simp <;> omega))).trans (by go_simp)
        have v2 : w2.cell? ⟨w.heap.size + 1, 2, none⟩ = some (.int .i64 (RM.numAt s 6)) := (hb2.cell (by first | omega | (simp <;> omega))).trans (by first | go_simp | (rw [← E1.out]; go_simp))
        have q3 : w2.cell? ⟨w.heap.size, 3, none⟩ = some (.int .i64 0) := (hb2.cell (by first | omega | (simp <;> omega))).trans (by go_simp)
        have f3 : w2.frozen? ⟨w.heap.size, 3, none⟩ = false := (hb2.frozen (by first | omega | (simp <;> omega))).trans (by go_simp)
        have v3 : w2.cell? ⟨w.heap.size + 1, 3, none⟩ = some (.int .i64 (RM.numAt s 10)) := (hb2.cell (by first | omega | (simp <;> omega))).trans (by first | go_simp | (rw [← E1.out]; go_simp))
        have q4 : w2.cell? ⟨w.heap.size, 4, none⟩ = some (.int .i64 0) := (hb2.cell (by first | omega | (simp <;> omega))).trans (by go_simp)
        have f4 : w2.frozen? ⟨w.heap.size, 4, none⟩ = false := (hb2.frozen (by first | omega | (simp <;> omega))).trans (by go_simp)
        have v4 : w2.cell? ⟨w.heap.size + 1, 4, none⟩ = some (.int .i64 (RM.numAt s 14)) := (hb2.cell (by first | omega | (simp <;> omega))).trans (by first | go_simp | (rw [← E1.out]; go_simp))
        clear hb2
        go_wp2_with fail
        · have hno := RM.read_bad s (by assumption) (by assumption)
          rw [RM.readV_no s hno, decide_eq_false hno]
          refine bodyPost_ret (results_hd rfl _ _ w.heap.size 0 0 0 0 0 rfl (by go_simp) (by go_simp) (by go_simp) (by go_simp) (by go_simp)) rfl ?_
          exact ⟨rfl, by repeat' first | (with_reducible exact hB2) | (with_reducible refine Below.setCell ?_ ?_ _) | omega | (simp <;> omega)⟩
        · have hyes := RM.read_good s h (by assumption) (by assumption)
          rw [RM.readV_yes s hyes, decide_eq_true hyes]
          refine bodyPost_ret (results_hd rfl _ _ w.heap.size (RM.kindF s) (RM.numAt s 2) (RM.numAt s 6) (RM.numAt s 10) (RM.numAt s 14) rfl (by go_simp) (by go_simp) (by go_simp) (by go_simp) (by go_simp)) rfl ?_
          exact ⟨rfl, by repeat' first | (with_reducible exact hB2) | (with_reducible refine Below.setCell ?_ ?_ _) | omega | (simp <;> omega)⟩
        · have hmay : ¬ RM.may (RM.kindF s) (RM.numAt s 2) (RM.numAt s 6) (RM.numAt s 10) (RM.numAt s 14) := by assumption
          have hno : ¬ RM.readOk s := fun x => hmay x.2.1
          rw [RM.readV_no s hno, decide_eq_false hno]
          refine bodyPost_ret (results_hd rfl _ _ w.heap.size 0 0 0 0 0 rfl (by go_simp) (by go_simp) (by go_simp) (by go_simp) (by go_simp)) rfl ?_
          exact ⟨rfl, by repeat' first | (with_reducible exact hB2) | (with_reducible refine Below.setCell ?_ ?_ _) | omega | (simp <;> omega)⟩
    · skip
      go_simp
      refine hK.out _ _ ?_ (fun hHeld => ?_); (· (first | (dsimp only; done) | trivial)); clear hK K; (try simp only [Act.put, List.setIfInBounds_toArray, List.set_cons_zero, List.set_cons_succ])
      refine wpAnyH_ready (rs := [8]) (by kernel_rfl) (by simp) (Lib.cons_l rfl (fun K hK => ?_) AllReadyH.nil)
      go_simp; refine (number_at s 6 _ h (by decide)).mono ?_; rintro e w' ⟨rfl, n1, rfl⟩; (try go_wp2_with fail)
      refine hK.out _ _ ?_ (fun hHeld => ?_); (· (first | (dsimp only; done) | trivial)); clear hK K; (try simp only [Act.put, List.setIfInBounds_toArray, List.set_cons_zero, List.set_cons_succ])
      refine wpAnyH_ready (rs := [11]) (by kernel_rfl) (by simp) (Lib.cons_l rfl (fun K hK => ?_) AllReadyH.nil)
      go_simp; refine (number_at s 10 _ h (by decide)).mono ?_; rintro e w' ⟨rfl, n2, rfl⟩; (try go_wp2_with fail)
      refine hK.out _ _ ?_ (fun hHeld => ?_); (· (first | (dsimp only; done) | trivial)); clear hK K; (try simp only [Act.put, List.setIfInBounds_toArray, List.set_cons_zero, List.set_cons_succ])
      refine wpAnyH_ready (rs := [14]) (by kernel_rfl) (by simp) (Lib.cons_l rfl (fun K hK => ?_) AllReadyH.nil)
      go_simp; refine (number_at s 14 _ h (by decide)).mono ?_; rintro e w' ⟨rfl, n3, rfl⟩; (try go_wp2_with fail)
      refine hK.out _ _ ?_ (fun hHeld => ?_); (· (first | (dsimp only; done) | trivial)); clear hK K; (try simp only [Act.put, List.setIfInBounds_toArray, List.set_cons_zero, List.set_cons_succ])
      refine Lib.take_l (i := 15) (v := ?_) rfl (by kernel_rfl) (by kernel_rfl) (by kernel_rfl) (fun _ _ _ h => h) (Or.inl ⟨by rfl, ?_⟩) (by assumption) ?_; rotate_left; (· (intro w' hSw; (try dsimp only at hSw); go_simp; (try with_reducible rfl))); (try simp only [Act.put, List.setIfInBounds_toArray, List.set_cons_zero, List.set_cons_succ])
      refine wpAnyH_ready (rs := [17]) (by kernel_rfl) (by simp) (Lib.cons_l rfl (fun K hK => ?_) AllReadyH.nil)
      go_simp
      refine hK.out _ _ ?_ (fun hHeld => ?_); (· (first | (dsimp only; done) | trivial)); clear hK K; (try simp only [Act.put, List.setIfInBounds_toArray, List.set_cons_zero, List.set_cons_succ])
      refine wpAnyH_done (by kernel_rfl) ?_ _; refine NoPanic.normal ?_
      go_wp2_with fail
      rw [E1.out]
      refine (text_any _ _ _ _ _ _ hbm).mono ?_; rintro e w2 ⟨rfl, hb2⟩
      have hB2 : Below w.heap.size w w2 := Below.trans (by repeat' first | (with_reducible exact Below.refl _ _) | (with_reducible refine Lib.below_drewN ?_ _) | (with_reducible refine Below.drew ?_) | (with_reducible refine Below.alloc ?_ ?_ _) | (with_reducible refine Below.setCell ?_ ?_ _) | (simp <;> omega)) (hb2.mono (by simp <;> omega))
      have q0 : w2.cell? ⟨w.heap.size, 0, none⟩ = some (.int .i64 0) := (hb2.cell (by first | omega | (simp <;> omega))).trans (by go_simp)
      have f0 : w2.frozen? ⟨w.heap.size, 0, none⟩ = false := (hb2.frozen (by first | omega | (simp <;> omega))).trans (by go_simp)
      have v0 : w2.cell? ⟨w.heap.size + 1, 0, none⟩ = some (.int .i64 (RM.kindF s)) := (hb2.cell (by first | omega | (simp <;> omega))).trans (by first | go_simp | (rw [← E1.out]; go_simp))
      have q1 : w2.cell? ⟨w.heap.size, 1, none⟩ = some (.int .i64 0) := (hb2.cell (by first | omega | (simp <;> omega))).trans (by go_simp)
      have f1 : w2.frozen? ⟨w.heap.size, 1, none⟩ = false := (hb2.frozen (by first | omega | (simp <;> omega))).trans (by go_simp)
      have v1 : w2.cell? ⟨w.heap.size + 1, 1, none⟩ = some (.int .i64 (RM.numAt s 2)) := (hb2.cell (by first | omega | (simp <;> omega))).trans (by first | go_simp | (rw [← E1.out]; go_simp))
      have q2 : w2.cell? ⟨w.heap.size, 2, none⟩ = some (.int .i64 0) := (hb2.cell (by first | omega | (simp <;> omega))).trans (by go_simp)
      have f2 : w2.frozen? ⟨w.heap.size, 2, none⟩ = false := (hb2.frozen (by first | omega | (simp <;> omega))).trans (by go_simp)
      have v2 : w2.cell? ⟨w.heap.size + 1, 2, none⟩ = some (.int .i64 (RM.numAt s 6)) := (hb2.cell (by first | omega | (simp <;> omega))).trans (by first | go_simp | (rw [← E1.out]; go_simp))
      have q3 : w2.cell? ⟨w.heap.size, 3, none⟩ = some (.int .i64 0) := (hb2.cell (by first | omega | (simp <;> omega))).trans (by go_simp)
      have f3 : w2.frozen? ⟨w.heap.size, 3, none⟩ = false := (hb2.frozen (by first | omega | (simp <;> omega))).trans (by go_simp)
      have v3 : w2.cell? ⟨w.heap.size + 1, 3, none⟩ = some (.int .i64 (RM.numAt s 10)) := (hb2.cell (by first | omega | (simp <;> omega))).trans (by first | go_simp | (rw [← E1.out]; go_simp))
      have q4 : w2.cell? ⟨w.heap.size, 4, none⟩ = some (.int .i64 0) := (hb2.cell (by first | omega | (simp <;> omega))).trans (by go_simp)
      have f4 : w2.frozen? ⟨w.heap.size, 4, none⟩ = false := (hb2.frozen (by first | omega | (simp <;> omega))).trans (by go_simp)
      have v4 : w2.cell? ⟨w.heap.size + 1, 4, none⟩ = some (.int .i64 (RM.numAt s 14)) := (hb2.cell (by first | omega | (simp <;> omega))).trans (by first | go_simp | (rw [← E1.out]; go_simp))
      clear hb2
      go_wp2_with fail
      · have hno := RM.read_bad s (by assumption) (by assumption)
        rw [RM.readV_no s hno, decide_eq_false hno]
        refine bodyPost_ret (results_hd rfl _ _ w.heap.size 0 0 0 0 0 rfl (by go_simp) (by go_simp) (by go_simp) (by go_simp) (by go_simp)) rfl ?_
        exact ⟨rfl, by repeat' first | (with_reducible exact hB2) | (with_reducible refine Below.setCell ?_ ?_ _) | omega | (simp <;> omega)⟩
      · have hyes := RM.read_good s h (by assumption) (by assumption)
        rw [RM.readV_yes s hyes, decide_eq_true hyes]
        refine bodyPost_ret (results_hd rfl _ _ w.heap.size (RM.kindF s) (RM.numAt s 2) (RM.numAt s 6) (RM.numAt s 10) (RM.numAt s 14) rfl (by go_simp) (by go_simp) (by go_simp) (by go_simp) (by go_simp)) rfl ?_
        exact ⟨rfl, by repeat' first | (with_reducible exact hB2) | (with_reducible refine Below.setCell ?_ ?_ _) | omega | (simp <;> omega)⟩
      · have hmay : ¬ RM.may (RM.kindF s) (RM.numAt s 2) (RM.numAt s 6) (RM.numAt s 10) (RM.numAt s 14) := by assumption
        have hno : ¬ RM.readOk s := fun x => hmay x.2.1
        rw [RM.readV_no s hno, decide_eq_false hno]
        refine bodyPost_ret (results_hd rfl _ _ w.heap.size 0 0 0 0 0 rfl (by go_simp) (by go_simp) (by go_simp) (by go_simp) (by go_simp)) rfl ?_
        exact ⟨rfl, by repeat' first | (with_reducible exact hB2) | (with_reducible refine Below.setCell ?_ ?_ _) | omega | (simp <;> omega)⟩
  · skip
    go_simp
    refine hK.out _ _ ?_ (fun hHeld => ?_); (· (first | (dsimp only; done) | trivial)); clear hK K; (try simp only [Act.put, List.setIfInBounds_toArray, List.set_cons_zero, List.set_cons_succ])
    refine wpAnyH_ready (rs := [5]) (by kernel_rfl) (by simp) (Lib.cons_l rfl (fun K hK => ?_) AllReadyH.nil)
    go_simp; refine (number_at s 2 _ h (by decide)).mono ?_; rintro e w' ⟨rfl, n0, rfl⟩; (try go_wp2_with fail)
    refine hK.out _ _ ?_ (fun hHeld => ?_); (· (first | (dsimp only; done) | trivial)); clear hK K; (try simp only [Act.put, List.setIfInBounds_toArray, List.set_cons_zero, List.set_cons_succ])
    refine wpAnyH_ready (rs := [8]) (by kernel_rfl) (by simp) (Lib.cons_l rfl (fun K hK => ?_) AllReadyH.nil)
    go_simp; refine (number_at s 6 _ h (by decide)).mono ?_; rintro e w' ⟨rfl, n1, rfl⟩; (try go_wp2_with fail)
    refine hK.out _ _ ?_ (fun hHeld => ?_); (· (first | (dsimp only; done) | trivial)); clear hK K; (try simp only [Act.put, List.setIfInBounds_toArray, List.set_cons_zero, List.set_cons_succ])
    refine wpAnyH_ready (rs := [11]) (by kernel_rfl) (by simp) (Lib.cons_l rfl (fun K hK => ?_) AllReadyH.nil)
    go_simp; refine (number_at s 10 _ h (by decide)).mono ?_; rintro e w' ⟨rfl, n2, rfl⟩; (try go_wp2_with fail)
    refine hK.out _ _ ?_ (fun hHeld => ?_); (· (first | (dsimp only; done) | trivial)); clear hK K; (try simp only [Act.put, List.setIfInBounds_toArray, List.set_cons_zero, List.set_cons_succ])
    refine wpAnyH_ready (rs := [14]) (by kernel_rfl) (by simp) (Lib.cons_l rfl (fun K hK => ?_) AllReadyH.nil)
    go_simp; refine (number_at s 14 _ h (by decide)).mono ?_; rintro e w' ⟨rfl, n3, rfl⟩; (try go_wp2_with fail)
    refine hK.out _ _ ?_ (fun hHeld => ?_); (· (first | (dsimp only; done) | trivial)); clear hK K; (try simp only [Act.put, List.setIfInBounds_toArray, List.set_cons_zero, List.set_cons_succ])
    refine Lib.take_l (i := 15) (v := ?_) rfl (by kernel_rfl) (by kernel_rfl) (by kernel_rfl) (fun _ _ _ h => h) (Or.inl ⟨by rfl, ?_⟩) (by assumption) ?_; rotate_left; (· (intro w' hSw; (try dsimp only at hSw); go_simp; (try with_reducible rfl))); (try simp only [Act.put, List.setIfInBounds_toArray, List.set_cons_zero, List.set_cons_succ])
    refine wpAnyH_ready (rs := [17]) (by kernel_rfl) (by simp) (Lib.cons_l rfl (fun K hK => ?_) AllReadyH.nil)
    go_simp
    refine hK.out _ _ ?_ (fun hHeld => ?_); (· (first | (dsimp only; done) | trivial)); clear hK K; (try simp only [Act.put, List.setIfInBounds_toArray, List.set_cons_zero, List.set_cons_succ])
    refine wpAnyH_done (by kernel_rfl) ?_ _; refine NoPanic.normal ?_
    go_wp2_with fail
    rw [E1.out]
    refine (text_any _ _ _ _ _ _ hbm).mono ?_; rintro e w2 ⟨rfl, hb2⟩
    have hB2 : Below w.heap.size w w2 := Below.trans (by repeat' first | (with_reducible exact Below.refl _ _) | (with_reducible refine Lib.below_drewN ?_ _) | (with_reducible refine Below.drew ?_) | (with_reducible refine Below.alloc ?_ ?_ _) | (with_reducible refine Below.setCell ?_ ?_ _) | (simp <;> omega)) (hb2.mono (by simp <;> omega))
    have q0 : w2.cell? ⟨w.heap.size, 0, none⟩ = some (.int .i64 0) := (hb2.cell (by first | omega | (simp <;> omega))).trans (by go_simp)
    have f0 : w2.frozen? ⟨w.heap.size, 0, none⟩ = false := (hb2.frozen (by first | omega | (simp <;> omega))).trans (by go_simp)
    have v0 : w2.cell? ⟨w.heap.size + 1, 0, none⟩ = some (.int .i64 (RM.kindF s)) := (hb2.cell (by first | omega | (simp <;> omega))).trans (by first | go_simp | (rw [← E1.out]; go_simp))
    have q1 : w2.cell? ⟨w.heap.size, 1, none⟩ = some (.int .i64 0) := (hb2.cell (by first | omega | (simp <;> omega))).trans (by go_simp)
    have f1 : w2.frozen? ⟨w.heap.size, 1, none⟩ = false := (hb2.frozen (by first | omega | (simp <;> omega))).trans (by go_simp)
    have v1 : w2.cell? ⟨w.heap.size + 1, 1, none⟩ = some (.int .i64 (RM.numAt s 2)) := (hb2.cell (by first | omega | (simp <;> omega))).trans (by first | go_simp | (rw [← E1.out]; go_simp))
    have q2 : w2.cell? ⟨w.heap.size, 2, none⟩ = some (.int .i64 0) := (hb2.cell (by first | omega | (simp <;> omega))).trans (by go_simp)
    have f2 : w2.frozen? ⟨w.heap.size, 2, none⟩ = false := (hb2.frozen (by first | omega | (simp <;> omega))).trans (by go_simp)
    have v2 : w2.cell? ⟨w.heap.size + 1, 2, none⟩ = some (.int .i64 (RM.numAt s 6)) := (hb2.cell (by first | omega | (simp <;> omega))).trans (by first | go_simp | (rw [← E1.out]; go_simp))
    have q3 : w2.cell? ⟨w.heap.size, 3, none⟩ = some (.int .i64 0) := (hb2.cell (by first | omega | (simp <;> omega))).trans (by go_simp)
    have f3 : w2.frozen? ⟨w.heap.size, 3, none⟩ = false := (hb2.frozen (by first | omega | (simp <;> omega))).trans (by go_simp)
    have v3 : w2.cell? ⟨w.heap.size + 1, 3, none⟩ = some (.int .i64 (RM.numAt s 10)) := (hb2.cell (by first | omega | (simp <;> omega))).trans (by first | go_simp | (rw [← E1.out]; go_simp))
    have q4 : w2.cell? ⟨w.heap.size, 4, none⟩ = some (.int .i64 0) := (hb2.cell (by first | omega | (simp <;> omega))).trans (by go_simp)
    have f4 : w2.frozen? ⟨w.heap.size, 4, none⟩ = false := (hb2.frozen (by first | omega | (simp <;> omega))).trans (by go_simp)
    have v4 : w2.cell? ⟨w.heap.size + 1, 4, none⟩ = some (.int .i64 (RM.numAt s 14)) := (hb2.cell (by first | omega | (simp <;> omega))).trans (by first | go_simp | (rw [← E1.out]; go_simp))
    clear hb2
    go_wp2_with fail
    · have hno := RM.read_bad s (by assumption) (by assumption)
      rw [RM.readV_no s hno, decide_eq_false hno]
      refine bodyPost_ret (results_hd rfl _ _ w.heap.size 0 0 0 0 0 rfl (by go_simp) (by go_simp) (by go_simp) (by go_simp) (by go_simp)) rfl ?_
      exact ⟨rfl, by repeat' first | (with_reducible exact hB2) | (with_reducible refine Below.setCell ?_ ?_ _) | omega | (simp <;> omega)⟩
    · have hyes := RM.read_good s h (by assumption) (by assumption)
      rw [RM.readV_yes s hyes, decide_eq_true hyes]
      refine bodyPost_ret (results_hd rfl _ _ w.heap.size (RM.kindF s) (RM.numAt s 2) (RM.numAt s 6) (RM.numAt s 10) (RM.numAt s 14) rfl (by go_simp) (by go_simp) (by go_simp) (by go_simp) (by go_simp)) rfl ?_
      exact ⟨rfl, by repeat' first | (with_reducible exact hB2) | (with_reducible refine Below.setCell ?_ ?_ _) | omega | (simp <;> omega)⟩
    · have hmay : ¬ RM.may (RM.kindF s) (RM.numAt s 2) (RM.numAt s 6) (RM.numAt s 10) (RM.numAt s 14) := by assumption
      have hno : ¬ RM.readOk s := fun x => hmay x.2.1
      rw [RM.readV_no s hno, decide_eq_false hno]
      refine bodyPost_ret (results_hd rfl _ _ w.heap.size 0 0 0 0 0 rfl (by go_simp) (by go_simp) (by go_simp) (by go_simp) (by go_simp)) rfl ?_
      exact ⟨rfl, by repeat' first | (with_reducible exact hB2) | (with_reducible refine Below.setCell ?_ ?_ _) | omega | (simp <;> omega)⟩
theorem read_no (s : ByteArray) (w : World) (h : s.size ≠ 32) :
    Calls Try.prog 28 #[.string s] w fun e w' => e = .returned (.tuple #[RM.readV s, .bool (decide (RM.readOk s))]) ∧ Below w.heap.size w w' := by
  have hno : ¬ RM.readOk s := fun x => h x.1
  rw [RM.readV_no s hno, decide_eq_false hno]
  have hz : ¬ (s.size : Int) = 32 := by omega
  clear hno
  go_enter Try.func28, Try.ntmps28
  go_wp2
  refine bodyPost_ret (results_hd rfl _ _ w.heap.size 0 0 0 0 0 rfl (by go_simp) (by go_simp) (by go_simp) (by go_simp) (by go_simp)) rfl ?_
  exact ⟨rfl, by repeat' first | (with_reducible exact Below.refl _ _) | (with_reducible refine Below.alloc ?_ ?_ _) | (with_reducible refine Below.setCell ?_ ?_ _) | omega | (simp <;> omega)⟩
theorem read_any (s : ByteArray) (w : World) :
    Calls Try.prog 28 #[.string s] w fun e w' => e = .returned (.tuple #[RM.readV s, .bool (decide (RM.readOk s))]) ∧ Below w.heap.size w w' := by
  by_cases h : s.size = 32
  · exact read_32 s w h
  · exact read_no s w h
end RecW
end Go.Proofs.Ytabmdijfholakaa
