/- The contracts of package rec: heads. -/
import Derived.Test.YtabmdijfholakaaJqa7
import Derived.Test.YtabmdijfholakaaJqa8
import Derived.Deep.DrawnRows
namespace Go.Proofs.Ytabmdijfholakaa
open Go.RowKit
attribute [local go_sem ↓] Go.wp_at_zero Go.wp_at_succ
namespace RecW
def hd (k g q z m : Int) : Value := .agg #[.int .i64 k, .int .i64 g, .int .i64 q, .int .i64 z, .int .i64 m]
set_option maxHeartbeats 400000 in
theorem isSum_any (n : Int) (w : World) (hb : -9223372036854775808 ≤ n ∧ n ≤ 9223372036854775807) :
    Calls Try.prog 71 #[.int .i64 n] w fun e w' => e = .returned (.bool (decide (SM.isSum n))) ∧ w = w' := by
  go_enter Try.func71, Try.ntmps71
  go_wp2_with fail
  refine (SumW.roll_any n _ w hb (by decide)).mono ?_; rintro e w' ⟨rfl, rfl⟩
  go_wp2_with fail
  go_ret
  refine ⟨SumW.ret_bool ?_, rfl⟩
  show decide (SM.rollF n [] = n) = decide (SM.isSum n)
  by_cases h : SM.isSum n
  · have : SM.rollF n [] = n := by
      unfold SM.rollF; rw [if_pos h]; unfold SM.isSum at h
      simp only [SM.steps, List.foldl_nil]; omega
    simp [h, this]
  · have : SM.rollF n [] = 0 := by unfold SM.rollF; rw [if_neg h]
    have h0 : n ≠ 0 := by rintro rfl; exact h (by unfold SM.isSum; omega)
    simp [h, this]; omega
set_option maxHeartbeats 1600000 in
theorem may_any (k g q z m : Int) (w : World) (hb : -9223372036854775808 ≤ m ∧ m ≤ 9223372036854775807) :
    Calls Try.prog 64 #[.agg #[.int .i64 k, .int .i64 g, .int .i64 q, .int .i64 z, .int .i64 m]] w fun e w' => e = .returned (.bool (decide (RM.may k g q z m))) ∧ Below w.heap.size w w' := by
  go_enter Try.func64, Try.ntmps64
  go_wp2_with (go_at_call 71; refine (isSum_any _ _ hb).mono ?_; rintro e w' ⟨rfl, rfl⟩)
  all_goals (go_ret; refine ⟨SumW.ret_bool ?_, (Below.refl _ _).alloc (Nat.le_refl _) _⟩)
  all_goals first
    | (symm; rw [decide_eq_false_iff_not]; unfold RM.may; rintro ⟨_, _, _, _, _⟩; omega)
    | (apply decide_eq_decide.mpr; unfold RM.may; exact ⟨fun h => ⟨by omega, by omega, by omega, by omega, h⟩, fun h => h.2.2.2.2⟩)
theorem text_no (k g q z m : Int) (w : World) (hb : -9223372036854775808 ≤ m ∧ m ≤ 9223372036854775807) (h : ¬ RM.may k g q z m) :
    Calls Try.prog 51 #[.agg #[.int .i64 k, .int .i64 g, .int .i64 q, .int .i64 z, .int .i64 m]] w fun e w' => e = .returned (.tuple #[.string (RM.textB k g q z m), .bool (decide (RM.may k g q z m))]) ∧ Below w.heap.size w w' := by
  have hT : Hid (RM.textB k g q z m = ⟨#[]⟩) := by apply Lib.hid; unfold RM.textB; rw [if_neg h]; rfl
  have hd : decide (RM.may k g q z m) = false := decide_eq_false h
  go_enter Try.func51, Try.ntmps51
  go_wp2_with fail
  refine (may_any k g q z m _ hb).mono ?_; rintro e w1 ⟨rfl, hb1⟩
  have hb2 : Below w.heap.size w w1 := ((Below.refl _ w).alloc (Nat.le_refl _) _).trans (hb1.mono (by simp))
  clear hb1
  go_wp2_with fail
  go_ret2
  exact ⟨by rw [hT.out, hd]; rfl, hb2⟩
set_option maxHeartbeats 16000000 in
set_option maxRecDepth 100000 in
theorem text_yes (k g q z m : Int) (w : World) (hb : -9223372036854775808 ≤ m ∧ m ≤ 9223372036854775807) (h : RM.may k g q z m) :
    Calls Try.prog 51 #[.agg #[.int .i64 k, .int .i64 g, .int .i64 q, .int .i64 z, .int .i64 m]] w fun e w' => e = .returned (.tuple #[.string (RM.textB k g q z m), .bool (decide (RM.may k g q z m))]) ∧ Below w.heap.size w w' := by
  have hT : Hid (RM.textB k g q z m = RM.str (RM.textL k g q z m)) := by apply Lib.hid; unfold RM.textB; rw [if_pos h]
  have hd : decide (RM.may k g q z m) = true := decide_eq_true h
  have H := Lib.hid h
  unfold RM.may at h
  have hm := SM.isSum_lt h.2.2.2.2
  obtain ⟨h1, ⟨h2, h3⟩, ⟨h4, h5⟩, ⟨h6, h7⟩, h8⟩ := h
  have hk0 : 0 ≤ k := by omega
  have hk1 : k < 256 := by omega
  have hkw : IntKind.u8.wrap k = k := wraps_u8 k hk0 (by omega)
  have hcv := conv1 k hk0 hk1
  have hll : (RM.lays [g, q, z, m]).length = 16 := rfl
  have hfs : Hid (((⟨#[72]⟩ : ByteArray) ++ RM.str [UInt8.ofNat k.toNat] ++ RM.str (RM.lays [g, q, z, m])).size ≤ 32) := by
    apply Lib.hid; rw [ByteArray.size_append, ByteArray.size_append, RM.str_size, RM.str_size, hll]; show 1 + 1 + 16 ≤ 32; decide
  go_enter Try.func51, Try.ntmps51
  go_wp2_with fail
  refine (may_any k g q z m _ hb).mono ?_; rintro e w1 ⟨rfl, hb1⟩
  have hb2 : Below w.heap.size w w1 := ((Below.refl _ w).alloc (Nat.le_refl _) _).trans (hb1.mono (by simp))
  have hs1 : w.heap.size < w1.heap.size := by have := hb1.size; simp at this; omega
  have c0 : w1.cell? ⟨w.heap.size, 0, none⟩ = some (.int .i64 k) := (hb1.cell (by simp)).trans (by rw [World.cell?_alloc_mark]; rfl)
  have c1 : w1.cell? ⟨w.heap.size, 1, none⟩ = some (.int .i64 g) := (hb1.cell (by simp)).trans (by rw [World.cell?_alloc_mark]; rfl)
  have c2 : w1.cell? ⟨w.heap.size, 2, none⟩ = some (.int .i64 q) := (hb1.cell (by simp)).trans (by rw [World.cell?_alloc_mark]; rfl)
  have c3 : w1.cell? ⟨w.heap.size, 3, none⟩ = some (.int .i64 z) := (hb1.cell (by simp)).trans (by rw [World.cell?_alloc_mark]; rfl)
  have c4 : w1.cell? ⟨w.heap.size, 4, none⟩ = some (.int .i64 m) := (hb1.cell (by simp)).trans (by rw [World.cell?_alloc_mark]; rfl)
  clear hb1
  have hn2 : w1.heap.size < w1.heap.size + 1 + 1 := by omega
  go_wp2_with fail
  generalize hB : w.heap.size = B at *
  have HB := Lib.hid hB; clear hB
  refine wp_region_noPanic ?_
  refine wp_region_held_drew (S := (fun w' => B < w'.heap.size ∧ Below B w w' ∧ w'.cell? ⟨B, 0, none⟩ = some (.int .i64 k) ∧ w'.cell? ⟨B, 1, none⟩ = some (.int .i64 g) ∧ w'.cell? ⟨B, 2, none⟩ = some (.int .i64 q) ∧ w'.cell? ⟨B, 3, none⟩ = some (.int .i64 z) ∧ w'.cell? ⟨B, 4, none⟩ = some (.int .i64 m))) (by kernel_rfl) ?_ (fun hHeld => ?_)
  · (first | (dsimp only; done) | (refine ⟨?_, ?_, ?_, ?_, ?_, ?_, ?_⟩ <;> first | assumption | (exact hb2.drew) | (exact zb.alloc (by first | omega | (simp <;> omega)) _) | go_simp | omega | (simp <;> omega)))
  obtain ⟨z0, zb, z1, z2, z3, z4, z5⟩ := id hHeld
  refine Lib.take_l (i := 0) (v := ?_) rfl (by kernel_rfl) (by kernel_rfl) (by kernel_rfl) (fun _ _ _ h => h) (Or.inl ⟨by rfl, ?_⟩) (by assumption) ?_; rotate_left; (· (intro w' hSw; (try dsimp only at hSw); go_simp; (try with_reducible rfl))); (try simp only [Act.put, List.setIfInBounds_toArray, List.set_cons_zero, List.set_cons_succ])
  refine Lib.take_l (i := 1) (v := ?_) rfl (by kernel_rfl) (by kernel_rfl) (by kernel_rfl) (fun _ _ _ h => h) (Or.inl ⟨by rfl, ?_⟩) (by assumption) ?_; rotate_left; (· (intro w' hSw; (try dsimp only at hSw); go_simp; (try with_reducible rfl))); (try simp only [Act.put, List.setIfInBounds_toArray, List.set_cons_zero, List.set_cons_succ])
  refine Lib.take_l (i := 2) (v := ?_) rfl (by kernel_rfl) (by kernel_rfl) (by kernel_rfl) (fun _ _ _ h => h) (Or.inl ⟨by rfl, ?_⟩) (by assumption) ?_; rotate_left; (· (intro w' hSw; (try dsimp only at hSw); go_simp; (try with_reducible rfl))); (try simp only [Act.put, List.setIfInBounds_toArray, List.set_cons_zero, List.set_cons_succ])
  refine Lib.take_l (i := 6) (v := ?_) rfl (by kernel_rfl) (by kernel_rfl) (by kernel_rfl) (fun _ _ _ h => h) (Or.inl ⟨by rfl, ?_⟩) (by assumption) ?_; rotate_left; (· (intro w' hSw; (try dsimp only at hSw); go_simp; (try with_reducible rfl))); (try simp only [Act.put, List.setIfInBounds_toArray, List.set_cons_zero, List.set_cons_succ])
  refine Lib.take_l (i := 7) (v := ?_) rfl (by kernel_rfl) (by kernel_rfl) (by kernel_rfl) (fun _ _ _ h => h) (Or.inl ⟨by rfl, ?_⟩) (by assumption) ?_; rotate_left; (· (intro w' hSw; (try dsimp only at hSw); go_simp; (try with_reducible rfl))); (try simp only [Act.put, List.setIfInBounds_toArray, List.set_cons_zero, List.set_cons_succ])
  refine Lib.take_l (i := 8) (v := ?_) rfl (by kernel_rfl) (by kernel_rfl) (by kernel_rfl) (fun _ _ _ h => h) (Or.inl ⟨by rfl, ?_⟩) (by assumption) ?_; rotate_left; (· (intro w' hSw; (try dsimp only at hSw); go_simp; (try with_reducible rfl))); (try simp only [Act.put, List.setIfInBounds_toArray, List.set_cons_zero, List.set_cons_succ])
  refine Lib.take_l (i := 9) (v := ?_) rfl (by kernel_rfl) (by kernel_rfl) (by kernel_rfl) (fun _ _ _ h => h) (Or.inl ⟨by rfl, ?_⟩) (by assumption) ?_; rotate_left; (· (intro w' hSw; (try dsimp only at hSw); go_simp; (try with_reducible rfl))); (try simp only [Act.put, List.setIfInBounds_toArray, List.set_cons_zero, List.set_cons_succ])
  refine Lib.take_l (i := 10) (v := ?_) rfl (by kernel_rfl) (by kernel_rfl) (by kernel_rfl) (fun _ _ _ h => h) (Or.inl ⟨by rfl, ?_⟩) (by assumption) ?_; rotate_left; (· (intro w' hSw; (try dsimp only at hSw); go_simp; (try with_reducible rfl))); (try simp only [Act.put, List.setIfInBounds_toArray, List.set_cons_zero, List.set_cons_succ])
  refine Lib.take_l (i := 11) (v := ?_) rfl (by kernel_rfl) (by kernel_rfl) (by kernel_rfl) (fun _ _ _ h => h) (Or.inl ⟨by rfl, ?_⟩) (by assumption) ?_; rotate_left; (· (intro w' hSw; (try dsimp only at hSw); go_simp; (try with_reducible rfl))); (try simp only [Act.put, List.setIfInBounds_toArray, List.set_cons_zero, List.set_cons_succ])
  refine Lib.take_l (i := 12) (v := ?_) rfl (by kernel_rfl) (by kernel_rfl) (by kernel_rfl) (fun _ _ _ h => h) (Or.inl ⟨by rfl, ?_⟩) (by assumption) ?_; rotate_left; (· (intro w' hSw; (try dsimp only at hSw); go_simp; (try with_reducible rfl))); (try simp only [Act.put, List.setIfInBounds_toArray, List.set_cons_zero, List.set_cons_succ])
  refine Lib.take_l (i := 13) (v := ?_) rfl (by kernel_rfl) (by kernel_rfl) (by kernel_rfl) (fun _ _ _ h => h) (Or.inl ⟨by rfl, ?_⟩) (by assumption) ?_; rotate_left; (· (intro w' hSw; (try dsimp only at hSw); go_simp; (try with_reducible rfl))); (try simp only [Act.put, List.setIfInBounds_toArray, List.set_cons_zero, List.set_cons_succ])
  refine wpAnyH_ready (rs := [3, 14]) (by kernel_rfl) (by simp) (Lib.cons_l rfl (fun K hK => ?_) (Lib.cons_l rfl (fun K hK => ?_) AllReadyH.nil))
  · skip
    go_simp
    refine hK.out _ _ ?_ (fun hHeld => ?_); (· (first | (dsimp only; done) | (refine ⟨?_, ?_, ?_, ?_, ?_, ?_, ?_⟩ <;> first | assumption | (exact hb2.drew) | (exact zb.alloc (by first | omega | (simp <;> omega)) _) | go_simp | omega | (simp <;> omega)))); clear hK K; (try simp only [Act.put, List.setIfInBounds_toArray, List.set_cons_zero, List.set_cons_succ]); obtain ⟨z0, zb, z1, z2, z3, z4, z5⟩ := id hHeld
    refine wpAnyH_ready (rs := [4, 14]) (by kernel_rfl) (by simp) (Lib.cons_l rfl (fun K hK => ?_) (Lib.cons_l rfl (fun K hK => ?_) AllReadyH.nil))
    · skip
      go_simp
      refine hK.out _ _ ?_ (fun hHeld => ?_); (· (first | (dsimp only; done) | (refine ⟨?_, ?_, ?_, ?_, ?_, ?_, ?_⟩ <;> first | assumption | (exact hb2.drew) | (exact zb.alloc (by first | omega | (simp <;> omega)) _) | go_simp | omega | (simp <;> omega)))); clear hK K; (try simp only [Act.put, List.setIfInBounds_toArray, List.set_cons_zero, List.set_cons_succ]); obtain ⟨z0, zb, z1, z2, z3, z4, z5⟩ := id hHeld
      refine Lib.take_l (i := 5) (v := ?_) rfl (by kernel_rfl) (by kernel_rfl) (by kernel_rfl) (fun _ _ _ h => h) (Or.inl ⟨by rfl, ?_⟩) (by assumption) ?_; rotate_left; (· (intro w' hSw; (try dsimp only at hSw); go_simp; (try with_reducible rfl))); (try simp only [Act.put, List.setIfInBounds_toArray, List.set_cons_zero, List.set_cons_succ])
      refine wpAnyH_ready (rs := [14]) (by kernel_rfl) (by simp) (Lib.cons_l rfl (fun K hK => ?_) AllReadyH.nil)
      go_simp
      refine hK.out _ _ ?_ (fun hHeld => ?_); (· (first | (dsimp only; done) | (refine ⟨?_, ?_, ?_, ?_, ?_, ?_, ?_⟩ <;> first | assumption | (exact hb2.drew) | (exact zb.alloc (by first | omega | (simp <;> omega)) _) | go_simp | omega | (simp <;> omega)))); clear hK K; (try simp only [Act.put, List.setIfInBounds_toArray, List.set_cons_zero, List.set_cons_succ]); obtain ⟨z0, zb, z1, z2, z3, z4, z5⟩ := id hHeld
      refine wpAnyH_ready (rs := [15]) (by kernel_rfl) (by simp) (Lib.cons_l rfl (fun K hK => ?_) AllReadyH.nil)
      go_simp; refine (lay4_any g q z m ⟨h2, by omega⟩ ⟨h4, by omega⟩ ⟨h6, by omega⟩ hm _ _ (by simp) (by simp) (by simp) (by simp) (by first | omega | (simp <;> omega))).mono ?_; rintro e w' ⟨rfl, hbl⟩; have hcl := fun (b : Nat) (hb : b < _) => hbl.cell (p := ⟨b, 0, none⟩) hb; (try go_wp2_with fail)
      refine hK.out _ _ ?_ (fun hHeld => ?_); (· (first | (dsimp only; done) | (exact ⟨Nat.lt_of_lt_of_le (by first | assumption | omega | (simp <;> omega)) hbl.size, zb.trans (hbl.mono (by first | omega | (simp <;> omega))), (hbl.cell (by first | assumption | omega | (simp <;> omega))).trans (by first | assumption | go_simp), (hbl.cell (by first | assumption | omega | (simp <;> omega))).trans (by first | assumption | go_simp), (hbl.cell (by first | assumption | omega | (simp <;> omega))).trans (by first | assumption | go_simp), (hbl.cell (by first | assumption | omega | (simp <;> omega))).trans (by first | assumption | go_simp), (hbl.cell (by first | assumption | omega | (simp <;> omega))).trans (by first | assumption | go_simp)⟩))); clear hK K; (try simp only [Act.put, List.setIfInBounds_toArray, List.set_cons_zero, List.set_cons_succ]); obtain ⟨z0, zb, z1, z2, z3, z4, z5⟩ := id hHeld
      refine Lib.take_l (i := 16) (v := ?_) rfl (by kernel_rfl) (by kernel_rfl) (by kernel_rfl) (fun _ _ _ h => h) (Or.inl ⟨by rfl, ?_⟩) (by assumption) ?_; rotate_left; (· (intro w' hSw; (try dsimp only at hSw); go_simp; (try with_reducible rfl))); (try simp only [Act.put, List.setIfInBounds_toArray, List.set_cons_zero, List.set_cons_succ])
      refine wpAnyH_ready (rs := [17]) (by kernel_rfl) (by simp) (Lib.cons_l rfl (fun K hK => ?_) AllReadyH.nil)
      go_simp; refine (fill_any _ _ hfs.out).mono ?_; rintro e w' ⟨rfl, hbf⟩; (try go_wp2_with fail)
      refine hK.out _ _ ?_ (fun hHeld => ?_); (· (first | (dsimp only; done) | (exact ⟨Nat.lt_of_lt_of_le (by first | assumption | omega | (simp <;> omega)) hbf.size, zb.trans (hbf.mono (by first | omega | (simp <;> omega))), (hbf.cell (by first | assumption | omega | (simp <;> omega))).trans (by first | assumption | go_simp), (hbf.cell (by first | assumption | omega | (simp <;> omega))).trans (by first | assumption | go_simp), (hbf.cell (by first | assumption | omega | (simp <;> omega))).trans (by first | assumption | go_simp), (hbf.cell (by first | assumption | omega | (simp <;> omega))).trans (by first | assumption | go_simp), (hbf.cell (by first | assumption | omega | (simp <;> omega))).trans (by first | assumption | go_simp)⟩))); clear hK K; (try simp only [Act.put, List.setIfInBounds_toArray, List.set_cons_zero, List.set_cons_succ]); obtain ⟨z0, zb, z1, z2, z3, z4, z5⟩ := id hHeld
      refine Lib.take_l (i := 18) (v := ?_) rfl (by kernel_rfl) (by kernel_rfl) (by kernel_rfl) (fun _ _ _ h => h) (Or.inl ⟨by rfl, ?_⟩) (by assumption) ?_; rotate_left; (· (intro w' hSw; (try dsimp only at hSw); go_simp; (try with_reducible rfl))); (try simp only [Act.put, List.setIfInBounds_toArray, List.set_cons_zero, List.set_cons_succ])
      refine Lib.take_l (i := 19) (v := ?_) rfl (by kernel_rfl) (by kernel_rfl) (by kernel_rfl) (fun _ _ _ h => h) (Or.inl ⟨by rfl, ?_⟩) (by assumption) ?_; rotate_left; (· (intro w' hSw; (try dsimp only at hSw); go_simp; (try with_reducible rfl))); (try simp only [Act.put, List.setIfInBounds_toArray, List.set_cons_zero, List.set_cons_succ])
      refine wpAnyH_done (by kernel_rfl) ?_ _; refine NoPanic.normal ?_
      go_wp2
      go_ret2
      exact ⟨by rw [hT.out]; first | rfl | (rw [hd]; rfl), by rw [HB.out]; exact zb⟩
    · skip
      go_simp
      refine hK.out _ _ ?_ (fun hHeld => ?_); (· (first | (dsimp only; done) | (refine ⟨?_, ?_, ?_, ?_, ?_, ?_, ?_⟩ <;> first | assumption | (exact hb2.drew) | (exact zb.alloc (by first | omega | (simp <;> omega)) _) | go_simp | omega | (simp <;> omega)))); clear hK K; (try simp only [Act.put, List.setIfInBounds_toArray, List.set_cons_zero, List.set_cons_succ]); obtain ⟨z0, zb, z1, z2, z3, z4, z5⟩ := id hHeld
      refine wpAnyH_ready (rs := [4, 15]) (by kernel_rfl) (by simp) (Lib.cons_l rfl (fun K hK => ?_) (Lib.cons_l rfl (fun K hK => ?_) AllReadyH.nil))
      · skip
        go_simp
        refine hK.out _ _ ?_ (fun hHeld => ?_); (· (first | (dsimp only; done) | (refine ⟨?_, ?_, ?_, ?_, ?_, ?_, ?_⟩ <;> first | assumption | (exact hb2.drew) | (exact zb.alloc (by first | omega | (simp <;> omega)) _) | go_simp | omega | (simp <;> omega)))); clear hK K; (try simp only [Act.put, List.setIfInBounds_toArray, List.set_cons_zero, List.set_cons_succ]); obtain ⟨z0, zb, z1, z2, z3, z4, z5⟩ := id hHeld
        refine Lib.take_l (i := 5) (v := ?_) rfl (by kernel_rfl) (by kernel_rfl) (by kernel_rfl) (fun _ _ _ h => h) (Or.inl ⟨by rfl, ?_⟩) (by assumption) ?_; rotate_left; (· (intro w' hSw; (try dsimp only at hSw); go_simp; (try with_reducible rfl))); (try simp only [Act.put, List.setIfInBounds_toArray, List.set_cons_zero, List.set_cons_succ])
        refine wpAnyH_ready (rs := [15]) (by kernel_rfl) (by simp) (Lib.cons_l rfl (fun K hK => ?_) AllReadyH.nil)
        go_simp; refine (lay4_any g q z m ⟨h2, by omega⟩ ⟨h4, by omega⟩ ⟨h6, by omega⟩ hm _ _ (by simp) (by simp) (by simp) (by simp) (by first | omega | (simp <;> omega))).mono ?_; rintro e w' ⟨rfl, hbl⟩; have hcl := fun (b : Nat) (hb : b < _) => hbl.cell (p := ⟨b, 0, none⟩) hb; (try go_wp2_with fail)
        refine hK.out _ _ ?_ (fun hHeld => ?_); (· (first | (dsimp only; done) | (exact ⟨Nat.lt_of_lt_of_le (by first | assumption | omega | (simp <;> omega)) hbl.size, zb.trans (hbl.mono (by first | omega | (simp <;> omega))), (hbl.cell (by first | assumption | omega | (simp <;> omega))).trans (by first | assumption | go_simp), (hbl.cell (by first | assumption | omega | (simp <;> omega))).trans (by first | assumption | go_simp), (hbl.cell (by first | assumption | omega | (simp <;> omega))).trans (by first | assumption | go_simp), (hbl.cell (by first | assumption | omega | (simp <;> omega))).trans (by first | assumption | go_simp), (hbl.cell (by first | assumption | omega | (simp <;> omega))).trans (by first | assumption | go_simp)⟩))); clear hK K; (try simp only [Act.put, List.setIfInBounds_toArray, List.set_cons_zero, List.set_cons_succ]); obtain ⟨z0, zb, z1, z2, z3, z4, z5⟩ := id hHeld
        refine Lib.take_l (i := 16) (v := ?_) rfl (by kernel_rfl) (by kernel_rfl) (by kernel_rfl) (fun _ _ _ h => h) (Or.inl ⟨by rfl, ?_⟩) (by assumption) ?_; rotate_left; (· (intro w' hSw; (try dsimp only at hSw); go_simp; (try with_reducible rfl))); (try simp only [Act.put, List.setIfInBounds_toArray, List.set_cons_zero, List.set_cons_succ])
        refine wpAnyH_ready (rs := [17]) (by kernel_rfl) (by simp) (Lib.cons_l rfl (fun K hK => ?_) AllReadyH.nil)
        go_simp; refine (fill_any _ _ hfs.out).mono ?_; rintro e w' ⟨rfl, hbf⟩; (try go_wp2_with fail)
        refine hK.out _ _ ?_ (fun hHeld => ?_); (· (first | (dsimp only; done) | (exact ⟨Nat.lt_of_lt_of_le (by first | assumption | omega | (simp <;> omega)) hbf.size, zb.trans (hbf.mono (by first | omega | (simp <;> omega))), (hbf.cell (by first | assumption | omega | (simp <;> omega))).trans (by first | assumption | go_simp), (hbf.cell (by first | assumption | omega | (simp <;> omega))).trans (by first | assumption | go_simp), (hbf.cell (by first | assumption | omega | (simp <;> omega))).trans (by first | assumption | go_simp), (hbf.cell (by first | assumption | omega | (simp <;> omega))).trans (by first | assumption | go_simp), (hbf.cell (by first | assumption | omega | (simp <;> omega))).trans (by first | assumption | go_simp)⟩))); clear hK K; (try simp only [Act.put, List.setIfInBounds_toArray, List.set_cons_zero, List.set_cons_succ]); obtain ⟨z0, zb, z1, z2, z3, z4, z5⟩ := id hHeld
        refine Lib.take_l (i := 18) (v := ?_) rfl (by kernel_rfl) (by kernel_rfl) (by kernel_rfl) (fun _ _ _ h => h) (Or.inl ⟨by rfl, ?_⟩) (by assumption) ?_; rotate_left; (· (intro w' hSw; (try dsimp only at hSw); go_simp; (try with_reducible rfl))); (try simp only [Act.put, List.setIfInBounds_toArray, List.set_cons_zero, List.set_cons_succ])
        refine Lib.take_l (i := 19) (v := ?_) rfl (by kernel_rfl) (by kernel_rfl) (by kernel_rfl) (fun _ _ _ h => h) (Or.inl ⟨by rfl, ?_⟩) (by assumption) ?_; rotate_left; (· (intro w' hSw; (try dsimp only at hSw); go_simp; (try with_reducible rfl))); (try simp only [Act.put, List.setIfInBounds_toArray, List.set_cons_zero, List.set_cons_succ])
        refine wpAnyH_done (by kernel_rfl) ?_ _; refine NoPanic.normal ?_
        go_wp2
        go_ret2
        exact ⟨by rw [hT.out]; first | rfl | (rw [hd]; rfl), by rw [HB.out]; exact zb⟩
      · skip
        go_simp; refine (lay4_any g q z m ⟨h2, by omega⟩ ⟨h4, by omega⟩ ⟨h6, by omega⟩ hm _ _ (by simp) (by simp) (by simp) (by simp) (by first | omega | (simp <;> omega))).mono ?_; rintro e w' ⟨rfl, hbl⟩; have hcl := fun (b : Nat) (hb : b < _) => hbl.cell (p := ⟨b, 0, none⟩) hb; (try go_wp2_with fail)
        refine hK.out _ _ ?_ (fun hHeld => ?_); (· (first | (dsimp only; done) | (exact ⟨Nat.lt_of_lt_of_le (by first | assumption | omega | (simp <;> omega)) hbl.size, zb.trans (hbl.mono (by first | omega | (simp <;> omega))), (hbl.cell (by first | assumption | omega | (simp <;> omega))).trans (by first | assumption | go_simp), (hbl.cell (by first | assumption | omega | (simp <;> omega))).trans (by first | assumption | go_simp), (hbl.cell (by first | assumption | omega | (simp <;> omega))).trans (by first | assumption | go_simp), (hbl.cell (by first | assumption | omega | (simp <;> omega))).trans (by first | assumption | go_simp), (hbl.cell (by first | assumption | omega | (simp <;> omega))).trans (by first | assumption | go_simp)⟩))); clear hK K; (try simp only [Act.put, List.setIfInBounds_toArray, List.set_cons_zero, List.set_cons_succ]); obtain ⟨z0, zb, z1, z2, z3, z4, z5⟩ := id hHeld
        refine wpAnyH_ready (rs := [4]) (by kernel_rfl) (by simp) (Lib.cons_l rfl (fun K hK => ?_) AllReadyH.nil)
        go_simp
        refine hK.out _ _ ?_ (fun hHeld => ?_); (· (first | (dsimp only; done) | (refine ⟨?_, ?_, ?_, ?_, ?_, ?_, ?_⟩ <;> first | assumption | (exact hb2.drew) | (exact zb.alloc (by first | omega | (simp <;> omega)) _) | go_simp | omega | (simp <;> omega)))); clear hK K; (try simp only [Act.put, List.setIfInBounds_toArray, List.set_cons_zero, List.set_cons_succ]); obtain ⟨z0, zb, z1, z2, z3, z4, z5⟩ := id hHeld
        refine Lib.take_l (i := 5) (v := ?_) rfl (by kernel_rfl) (by kernel_rfl) (by kernel_rfl) (fun _ _ _ h => h) (Or.inl ⟨by rfl, ?_⟩) (by assumption) ?_; rotate_left; (· (intro w' hSw; (try dsimp only at hSw); go_simp; (try with_reducible rfl))); (try simp only [Act.put, List.setIfInBounds_toArray, List.set_cons_zero, List.set_cons_succ])
        refine Lib.take_l (i := 16) (v := ?_) rfl (by kernel_rfl) (by kernel_rfl) (by kernel_rfl) (fun _ _ _ h => h) (Or.inl ⟨by rfl, ?_⟩) (by assumption) ?_; rotate_left; (· (intro w' hSw; (try dsimp only at hSw); go_simp; (try with_reducible rfl))); (try simp only [Act.put, List.setIfInBounds_toArray, List.set_cons_zero, List.set_cons_succ])
        refine wpAnyH_ready (rs := [17]) (by kernel_rfl) (by simp) (Lib.cons_l rfl (fun K hK => ?_) AllReadyH.nil)
        go_simp; refine (fill_any _ _ hfs.out).mono ?_; rintro e w' ⟨rfl, hbf⟩; (try go_wp2_with fail)
        refine hK.out _ _ ?_ (fun hHeld => ?_); (· (first | (dsimp only; done) | (exact ⟨Nat.lt_of_lt_of_le (by first | assumption | omega | (simp <;> omega)) hbf.size, zb.trans (hbf.mono (by first | omega | (simp <;> omega))), (hbf.cell (by first | assumption | omega | (simp <;> omega))).trans (by first | assumption | go_simp), (hbf.cell (by first | assumption | omega | (simp <;> omega))).trans (by first | assumption | go_simp), (hbf.cell (by first | assumption | omega | (simp <;> omega))).trans (by first | assumption | go_simp), (hbf.cell (by first | assumption | omega | (simp <;> omega))).trans (by first | assumption | go_simp), (hbf.cell (by first | assumption | omega | (simp <;> omega))).trans (by first | assumption | go_simp)⟩))); clear hK K; (try simp only [Act.put, List.setIfInBounds_toArray, List.set_cons_zero, List.set_cons_succ]); obtain ⟨z0, zb, z1, z2, z3, z4, z5⟩ := id hHeld
        refine Lib.take_l (i := 18) (v := ?_) rfl (by kernel_rfl) (by kernel_rfl) (by kernel_rfl) (fun _ _ _ h => h) (Or.inl ⟨by rfl, ?_⟩) (by assumption) ?_; rotate_left; (· (intro w' hSw; (try dsimp only at hSw); go_simp; (try with_reducible rfl))); (try simp only [Act.put, List.setIfInBounds_toArray, List.set_cons_zero, List.set_cons_succ])
        refine Lib.take_l (i := 19) (v := ?_) rfl (by kernel_rfl) (by kernel_rfl) (by kernel_rfl) (fun _ _ _ h => h) (Or.inl ⟨by rfl, ?_⟩) (by assumption) ?_; rotate_left; (· (intro w' hSw; (try dsimp only at hSw); go_simp; (try with_reducible rfl))); (try simp only [Act.put, List.setIfInBounds_toArray, List.set_cons_zero, List.set_cons_succ])
        refine wpAnyH_done (by kernel_rfl) ?_ _; refine NoPanic.normal ?_
        go_wp2
        go_ret2
        exact ⟨by rw [hT.out]; first | rfl | (rw [hd]; rfl), by rw [HB.out]; exact zb⟩
  · skip
    go_simp
    refine hK.out _ _ ?_ (fun hHeld => ?_); (· (first | (dsimp only; done) | (refine ⟨?_, ?_, ?_, ?_, ?_, ?_, ?_⟩ <;> first | assumption | (exact hb2.drew) | (exact zb.alloc (by first | omega | (simp <;> omega)) _) | go_simp | omega | (simp <;> omega)))); clear hK K; (try simp only [Act.put, List.setIfInBounds_toArray, List.set_cons_zero, List.set_cons_succ]); obtain ⟨z0, zb, z1, z2, z3, z4, z5⟩ := id hHeld
    refine wpAnyH_ready (rs := [3, 15]) (by kernel_rfl) (by simp) (Lib.cons_l rfl (fun K hK => ?_) (Lib.cons_l rfl (fun K hK => ?_) AllReadyH.nil))
    · skip
      go_simp
      refine hK.out _ _ ?_ (fun hHeld => ?_); (· (first | (dsimp only; done) | (refine ⟨?_, ?_, ?_, ?_, ?_, ?_, ?_⟩ <;> first | assumption | (exact hb2.drew) | (exact zb.alloc (by first | omega | (simp <;> omega)) _) | go_simp | omega | (simp <;> omega)))); clear hK K; (try simp only [Act.put, List.setIfInBounds_toArray, List.set_cons_zero, List.set_cons_succ]); obtain ⟨z0, zb, z1, z2, z3, z4, z5⟩ := id hHeld
      refine wpAnyH_ready (rs := [4, 15]) (by kernel_rfl) (by simp) (Lib.cons_l rfl (fun K hK => ?_) (Lib.cons_l rfl (fun K hK => ?_) AllReadyH.nil))
      · skip
        go_simp
        refine hK.out _ _ ?_ (fun hHeld => ?_); (· (first | (dsimp only; done) | (refine ⟨?_, ?_, ?_, ?_, ?_, ?_, ?_⟩ <;> first | assumption | (exact hb2.drew) | (exact zb.alloc (by first | omega | (simp <;> omega)) _) | go_simp | omega | (simp <;> omega)))); clear hK K; (try simp only [Act.put, List.setIfInBounds_toArray, List.set_cons_zero, List.set_cons_succ]); obtain ⟨z0, zb, z1, z2, z3, z4, z5⟩ := id hHeld
        refine Lib.take_l (i := 5) (v := ?_) rfl (by kernel_rfl) (by kernel_rfl) (by kernel_rfl) (fun _ _ _ h => h) (Or.inl ⟨by rfl, ?_⟩) (by assumption) ?_; rotate_left; (· (intro w' hSw; (try dsimp only at hSw); go_simp; (try with_reducible rfl))); (try simp only [Act.put, List.setIfInBounds_toArray, List.set_cons_zero, List.set_cons_succ])
        refine wpAnyH_ready (rs := [15]) (by kernel_rfl) (by simp) (Lib.cons_l rfl (fun K hK => ?_) AllReadyH.nil)
        go_simp; refine (lay4_any g q z m ⟨h2, by omega⟩ ⟨h4, by omega⟩ ⟨h6, by omega⟩ hm _ _ (by simp) (by simp) (by simp) (by simp) (by first | omega | (simp <;> omega))).mono ?_; rintro e w' ⟨rfl, hbl⟩; have hcl := fun (b : Nat) (hb : b < _) => hbl.cell (p := ⟨b, 0, none⟩) hb; (try go_wp2_with fail)
        refine hK.out _ _ ?_ (fun hHeld => ?_); (· (first | (dsimp only; done) | (exact ⟨Nat.lt_of_lt_of_le (by first | assumption | omega | (simp <;> omega)) hbl.size, zb.trans (hbl.mono (by first | omega | (simp <;> omega))), (hbl.cell (by first | assumption | omega | (simp <;> omega))).trans (by first | assumption | go_simp), (hbl.cell (by first | assumption | omega | (simp <;> omega))).trans (by first | assumption | go_simp), (hbl.cell (by first | assumption | omega | (simp <;> omega))).trans (by first | assumption | go_simp), (hbl.cell (by first | assumption | omega | (simp <;> omega))).trans (by first | assumption | go_simp), (hbl.cell (by first | assumption | omega | (simp <;> omega))).trans (by first | assumption | go_simp)⟩))); clear hK K; (try simp only [Act.put, List.setIfInBounds_toArray, List.set_cons_zero, List.set_cons_succ]); obtain ⟨z0, zb, z1, z2, z3, z4, z5⟩ := id hHeld
        refine Lib.take_l (i := 16) (v := ?_) rfl (by kernel_rfl) (by kernel_rfl) (by kernel_rfl) (fun _ _ _ h => h) (Or.inl ⟨by rfl, ?_⟩) (by assumption) ?_; rotate_left; (· (intro w' hSw; (try dsimp only at hSw); go_simp; (try with_reducible rfl))); (try simp only [Act.put, List.setIfInBounds_toArray, List.set_cons_zero, List.set_cons_succ])
        refine wpAnyH_ready (rs := [17]) (by kernel_rfl) (by simp) (Lib.cons_l rfl (fun K hK => ?_) AllReadyH.nil)
        go_simp; refine (fill_any _ _ hfs.out).mono ?_; rintro e w' ⟨rfl, hbf⟩; (try go_wp2_with fail)
        refine hK.out _ _ ?_ (fun hHeld => ?_); (· (first | (dsimp only; done) | (exact ⟨Nat.lt_of_lt_of_le (by first | assumption | omega | (simp <;> omega)) hbf.size, zb.trans (hbf.mono (by first | omega | (simp <;> omega))), (hbf.cell (by first | assumption | omega | (simp <;> omega))).trans (by first | assumption | go_simp), (hbf.cell (by first | assumption | omega | (simp <;> omega))).trans (by first | assumption | go_simp), (hbf.cell (by first | assumption | omega | (simp <;> omega))).trans (by first | assumption | go_simp), (hbf.cell (by first | assumption | omega | (simp <;> omega))).trans (by first | assumption | go_simp), (hbf.cell (by first | assumption | omega | (simp <;> omega))).trans (by first | assumption | go_simp)⟩))); clear hK K; (try simp only [Act.put, List.setIfInBounds_toArray, List.set_cons_zero, List.set_cons_succ]); obtain ⟨z0, zb, z1, z2, z3, z4, z5⟩ := id hHeld
        refine Lib.take_l (i := 18) (v := ?_) rfl (by kernel_rfl) (by kernel_rfl) (by kernel_rfl) (fun _ _ _ h => h) (Or.inl ⟨by rfl, ?_⟩) (by assumption) ?_; rotate_left; (· (intro w' hSw; (try dsimp only at hSw); go_simp; (try with_reducible rfl))); (try simp only [Act.put, List.setIfInBounds_toArray, List.set_cons_zero, List.set_cons_succ])
        refine Lib.take_l (i := 19) (v := ?_) rfl (by kernel_rfl) (by kernel_rfl) (by kernel_rfl) (fun _ _ _ h => h) (Or.inl ⟨by rfl, ?_⟩) (by assumption) ?_; rotate_left; (· (intro w' hSw; (try dsimp only at hSw); go_simp; (try with_reducible rfl))); (try simp only [Act.put, List.setIfInBounds_toArray, List.set_cons_zero, List.set_cons_succ])
        refine wpAnyH_done (by kernel_rfl) ?_ _; refine NoPanic.normal ?_
        go_wp2
        go_ret2
        exact ⟨by rw [hT.out]; first | rfl | (rw [hd]; rfl), by rw [HB.out]; exact zb⟩
      · skip
        go_simp; refine (lay4_any g q z m ⟨h2, by omega⟩ ⟨h4, by omega⟩ ⟨h6, by omega⟩ hm _ _ (by simp) (by simp) (by simp) (by simp) (by first | omega | (simp <;> omega))).mono ?_; rintro e w' ⟨rfl, hbl⟩; have hcl := fun (b : Nat) (hb : b < _) => hbl.cell (p := ⟨b, 0, none⟩) hb; (try go_wp2_with fail)
        refine hK.out _ _ ?_ (fun hHeld => ?_); (· (first | (dsimp only; done) | (exact ⟨Nat.lt_of_lt_of_le (by first | assumption | omega | (simp <;> omega)) hbl.size, zb.trans (hbl.mono (by first | omega | (simp <;> omega))), (hbl.cell (by first | assumption | omega | (simp <;> omega))).trans (by first | assumption | go_simp), (hbl.cell (by first | assumption | omega | (simp <;> omega))).trans (by first | assumption | go_simp), (hbl.cell (by first | assumption | omega | (simp <;> omega))).trans (by first | assumption | go_simp), (hbl.cell (by first | assumption | omega | (simp <;> omega))).trans (by first | assumption | go_simp), (hbl.cell (by first | assumption | omega | (simp <;> omega))).trans (by first | assumption | go_simp)⟩))); clear hK K; (try simp only [Act.put, List.setIfInBounds_toArray, List.set_cons_zero, List.set_cons_succ]); obtain ⟨z0, zb, z1, z2, z3, z4, z5⟩ := id hHeld
        refine wpAnyH_ready (rs := [4]) (by kernel_rfl) (by simp) (Lib.cons_l rfl (fun K hK => ?_) AllReadyH.nil)
        go_simp
        refine hK.out _ _ ?_ (fun hHeld => ?_); (· (first | (dsimp only; done) | (refine ⟨?_, ?_, ?_, ?_, ?_, ?_, ?_⟩ <;> first | assumption | (exact hb2.drew) | (exact zb.alloc (by first | omega | (simp <;> omega)) _) | go_simp | omega | (simp <;> omega)))); clear hK K; (try simp only [Act.put, List.setIfInBounds_toArray, List.set_cons_zero, List.set_cons_succ]); obtain ⟨z0, zb, z1, z2, z3, z4, z5⟩ := id hHeld
        refine Lib.take_l (i := 5) (v := ?_) rfl (by kernel_rfl) (by kernel_rfl) (by kernel_rfl) (fun _ _ _ h => h) (Or.inl ⟨by rfl, ?_⟩) (by assumption) ?_; rotate_left; (· (intro w' hSw; (try dsimp only at hSw); go_simp; (try with_reducible rfl))); (try simp only [Act.put, List.setIfInBounds_toArray, List.set_cons_zero, List.set_cons_succ])
        refine Lib.take_l (i := 16) (v := ?_) rfl (by kernel_rfl) (by kernel_rfl) (by kernel_rfl) (fun _ _ _ h => h) (Or.inl ⟨by rfl, ?_⟩) (by assumption) ?_; rotate_left; (· (intro w' hSw; (try dsimp only at hSw); go_simp; (try with_reducible rfl))); (try simp only [Act.put, List.setIfInBounds_toArray, List.set_cons_zero, List.set_cons_succ])
        refine wpAnyH_ready (rs := [17]) (by kernel_rfl) (by simp) (Lib.cons_l rfl (fun K hK => ?_) AllReadyH.nil)
        go_simp; refine (fill_any _ _ hfs.out).mono ?_; rintro e w' ⟨rfl, hbf⟩; (try go_wp2_with fail)
        refine hK.out _ _ ?_ (fun hHeld => ?_); (· (first | (dsimp only; done) | (exact ⟨Nat.lt_of_lt_of_le (by first | assumption | omega | (simp <;> omega)) hbf.size, zb.trans (hbf.mono (by first | omega | (simp <;> omega))), (hbf.cell (by first | assumption | omega | (simp <;> omega))).trans (by first | assumption | go_simp), (hbf.cell (by first | assumption | omega | (simp <;> omega))).trans (by first | assumption | go_simp), (hbf.cell (by first | assumption | omega | (simp <;> omega))).trans (by first | assumption | go_simp), (hbf.cell (by first | assumption | omega | (simp <;> omega))).trans (by first | assumption | go_simp), (hbf.cell (by first | assumption | omega | (simp <;> omega))).trans (by first | assumption | go_simp)⟩))); clear hK K; (try simp only [Act.put, List.setIfInBounds_toArray, List.set_cons_zero, List.set_cons_succ]); obtain ⟨z0, zb, z1, z2, z3, z4, z5⟩ := id hHeld
        refine Lib.take_l (i := 18) (v := ?_) rfl (by kernel_rfl) (by kernel_rfl) (by kernel_rfl) (fun _ _ _ h => h) (Or.inl ⟨by rfl, ?_⟩) (by assumption) ?_; rotate_left; (· (intro w' hSw; (try dsimp only at hSw); go_simp; (try with_reducible rfl))); (try simp only [Act.put, List.setIfInBounds_toArray, List.set_cons_zero, List.set_cons_succ])
        refine Lib.take_l (i := 19) (v := ?_) rfl (by kernel_rfl) (by kernel_rfl) (by kernel_rfl) (fun _ _ _ h => h) (Or.inl ⟨by rfl, ?_⟩) (by assumption) ?_; rotate_left; (· (intro w' hSw; (try dsimp only at hSw); go_simp; (try with_reducible rfl))); (try simp only [Act.put, List.setIfInBounds_toArray, List.set_cons_zero, List.set_cons_succ])
        refine wpAnyH_done (by kernel_rfl) ?_ _; refine NoPanic.normal ?_
        go_wp2
        go_ret2
        exact ⟨by rw [hT.out]; first | rfl | (rw [hd]; rfl), by rw [HB.out]; exact zb⟩
    · skip
      go_simp; refine (lay4_any g q z m ⟨h2, by omega⟩ ⟨h4, by omega⟩ ⟨h6, by omega⟩ hm _ _ (by simp) (by simp) (by simp) (by simp) (by first | omega | (simp <;> omega))).mono ?_; rintro e w' ⟨rfl, hbl⟩; have hcl := fun (b : Nat) (hb : b < _) => hbl.cell (p := ⟨b, 0, none⟩) hb; (try go_wp2_with fail)
      refine hK.out _ _ ?_ (fun hHeld => ?_); (· (first | (dsimp only; done) | (exact ⟨Nat.lt_of_lt_of_le (by first | assumption | omega | (simp <;> omega)) hbl.size, zb.trans (hbl.mono (by first | omega | (simp <;> omega))), (hbl.cell (by first | assumption | omega | (simp <;> omega))).trans (by first | assumption | go_simp), (hbl.cell (by first | assumption | omega | (simp <;> omega))).trans (by first | assumption | go_simp), (hbl.cell (by first | assumption | omega | (simp <;> omega))).trans (by first | assumption | go_simp), (hbl.cell (by first | assumption | omega | (simp <;> omega))).trans (by first | assumption | go_simp), (hbl.cell (by first | assumption | omega | (simp <;> omega))).trans (by first | assumption | go_simp)⟩))); clear hK K; (try simp only [Act.put, List.setIfInBounds_toArray, List.set_cons_zero, List.set_cons_succ]); obtain ⟨z0, zb, z1, z2, z3, z4, z5⟩ := id hHeld
      refine wpAnyH_ready (rs := [3]) (by kernel_rfl) (by simp) (Lib.cons_l rfl (fun K hK => ?_) AllReadyH.nil)
      go_simp
      refine hK.out _ _ ?_ (fun hHeld => ?_); (· (first | (dsimp only; done) | (refine ⟨?_, ?_, ?_, ?_, ?_, ?_, ?_⟩ <;> first | assumption | (exact hb2.drew) | (exact zb.alloc (by first | omega | (simp <;> omega)) _) | go_simp | omega | (simp <;> omega)))); clear hK K; (try simp only [Act.put, List.setIfInBounds_toArray, List.set_cons_zero, List.set_cons_succ]); obtain ⟨z0, zb, z1, z2, z3, z4, z5⟩ := id hHeld
      refine wpAnyH_ready (rs := [4]) (by kernel_rfl) (by simp) (Lib.cons_l rfl (fun K hK => ?_) AllReadyH.nil)
      go_simp
      refine hK.out _ _ ?_ (fun hHeld => ?_); (· (first | (dsimp only; done) | (refine ⟨?_, ?_, ?_, ?_, ?_, ?_, ?_⟩ <;> first | assumption | (exact hb2.drew) | (exact zb.alloc (by first | omega | (simp <;> omega)) _) | go_simp | omega | (simp <;> omega)))); clear hK K; (try simp only [Act.put, List.setIfInBounds_toArray, List.set_cons_zero, List.set_cons_succ]); obtain ⟨z0, zb, z1, z2, z3, z4, z5⟩ := id hHeld
      refine Lib.take_l (i := 5) (v := ?_) rfl (by kernel_rfl) (by kernel_rfl) (by kernel_rfl) (fun _ _ _ h => h) (Or.inl ⟨by rfl, ?_⟩) (by assumption) ?_; rotate_left; (· (intro w' hSw; (try dsimp only at hSw); go_simp; (try with_reducible rfl))); (try simp only [Act.put, List.setIfInBounds_toArray, List.set_cons_zero, List.set_cons_succ])
      refine Lib.take_l (i := 16) (v := ?_) rfl (by kernel_rfl) (by kernel_rfl) (by kernel_rfl) (fun _ _ _ h => h) (Or.inl ⟨by rfl, ?_⟩) (by assumption) ?_; rotate_left; (· (intro w' hSw; (try dsimp only at hSw); go_simp; (try with_reducible rfl))); (try simp only [Act.put, List.setIfInBounds_toArray, List.set_cons_zero, List.set_cons_succ])
      refine wpAnyH_ready (rs := [17]) (by kernel_rfl) (by simp) (Lib.cons_l rfl (fun K hK => ?_) AllReadyH.nil)
      go_simp; refine (fill_any _ _ hfs.out).mono ?_; rintro e w' ⟨rfl, hbf⟩; (try go_wp2_with fail)
      refine hK.out _ _ ?_ (fun hHeld => ?_); (· (first | (dsimp only; done) | (exact ⟨Nat.lt_of_lt_of_le (by first | assumption | omega | (simp <;> omega)) hbf.size, zb.trans (hbf.mono (by first | omega | (simp <;> omega))), (hbf.cell (by first | assumption | omega | (simp <;> omega))).trans (by first | assumption | go_simp), (hbf.cell (by first | assumption | omega | (simp <;> omega))).trans (by first | assumption | go_simp), (hbf.cell (by first | assumption | omega | (simp <;> omega))).trans (by first | assumption | go_simp), (hbf.cell (by first | assumption | omega | (simp <;> omega))).trans (by first | assumption | go_simp), (hbf.cell (by first | assumption | omega | (simp <;> omega))).trans (by first | assumption | go_simp)⟩))); clear hK K; (try simp only [Act.put, List.setIfInBounds_toArray, List.set_cons_zero, List.set_cons_succ]); obtain ⟨z0, zb, z1, z2, z3, z4, z5⟩ := id hHeld
      refine Lib.take_l (i := 18) (v := ?_) rfl (by kernel_rfl) (by kernel_rfl) (by kernel_rfl) (fun _ _ _ h => h) (Or.inl ⟨by rfl, ?_⟩) (by assumption) ?_; rotate_left; (· (intro w' hSw; (try dsimp only at hSw); go_simp; (try with_reducible rfl))); (try simp only [Act.put, List.setIfInBounds_toArray, List.set_cons_zero, List.set_cons_succ])
      refine Lib.take_l (i := 19) (v := ?_) rfl (by kernel_rfl) (by kernel_rfl) (by kernel_rfl) (fun _ _ _ h => h) (Or.inl ⟨by rfl, ?_⟩) (by assumption) ?_; rotate_left; (· (intro w' hSw; (try dsimp only at hSw); go_simp; (try with_reducible rfl))); (try simp only [Act.put, List.setIfInBounds_toArray, List.set_cons_zero, List.set_cons_succ])
      refine wpAnyH_done (by kernel_rfl) ?_ _; refine NoPanic.normal ?_
      go_wp2
      go_ret2
      exact ⟨by rw [hT.out]; first | rfl | (rw [hd]; rfl), by rw [HB.out]; exact zb⟩
end RecW
end Go.Proofs.Ytabmdijfholakaa
