/- One text of Ref5, Ref7, DiskW, Glue3, T1, T2 (mk/pack.py). -/
import Derived.Test.YtabmdijfholakaaJqa21
import Derived.Test.YtabmdijfholakaaJqa15
import Derived.Test.YtabmdijfholakaaJqa14
import Derived.Test.YtabmdijfholakaaJqa18
import Derived.Test.YtabmdijfholakaaJqa19
import Derived.Test.YtabmdijfholakaaJqa2
/- The document's answers of layer 1, by the plain machine: Flush. -/
namespace Go.Proofs.Ytabmdijfholakaa.AM
open Go.RowKit
set_option linter.unusedVariables false
set_option linter.unusedSimpArgs false
abbrev nilC : List C := [.d (.v (.slice none 0 0)), .d (.v (.slice none 0 0))]
def flS (d : DM.Dk) : Nat → St
  | 0 => St.of [(1, .one (.c (.box 1 0))), (2, .one (.c (.box 2 0))), (4, valD (.slice none 0 0)), (5, valD (.int .i64 0))] [(1, (25, dkC d)), (2, (25, nilC))] []
  | k + 1 => St.of [(1, .one (.c (.box 1 0))), (2, .one (.c (.box 2 0))), (4, .one (.c (.row 15 k))), (5, valD (.int .i64 ((k + 1 : Nat) : Int)))] [(1, (25, dkC d)), (2, (25, nilC))] [(15, { gen := k, E := 4, sz := 1, wr := true, xs := bolD (List.replicate (k + 1) true) })]
theorem flS_zero (d : DM.Dk) : flS d 0 = St.of [(1, .one (.c (.box 1 0))), (2, .one (.c (.box 2 0))), (4, valD (.slice none 0 0)), (5, valD (.int .i64 0))] [(1, (25, dkC d)), (2, (25, nilC))] [] := rfl
theorem flS_succ (d : DM.Dk) (k : Nat) : flS d (k + 1) = St.of [(1, .one (.c (.box 1 0))), (2, .one (.c (.box 2 0))), (4, .one (.c (.row 15 k))), (5, valD (.int .i64 ((k + 1 : Nat) : Int)))] [(1, (25, dkC d)), (2, (25, nilC))] [(15, { gen := k, E := 4, sz := 1, wr := true, xs := bolD (List.replicate (k + 1) true) })] := rfl
theorem bolD_snoc (k : Nat) : bolD (List.replicate k true) ++ [[.v (.bool true)]] = bolD (List.replicate (k + 1) true) := by simp [bolD, List.replicate_succ']
theorem crash_all (d : DM.Dk) : DM.crashD (fun j => (List.replicate d.cache.length true).getD j false) d = DM.crashD (fun _ => true) d := by
  unfold DM.crashD DM.settleD
  rw [DM.settleK_congr d.secs d.cache d.cache.length (f := fun j => (List.replicate d.cache.length true).getD j false) (g := fun _ => true) (fun j hj => by simp [List.getD, hj])]
set_option maxHeartbeats 1600000 in
theorem rflush_pc {G : World → Prop} (hG : Stab G) (d : DM.Dk) (b1 : d.secs.length ≤ 1000000) (b2 : d.cache.length ≤ 1000000) : PCalls Try.prog G 47 [.one (dk1 d)] (outD (DM.crashD (fun _ => true) d) (DM.argE d)) := by
  obtain ⟨D', hD'⟩ : ∃ D', DM.crashD (fun _ => true) d = D' := ⟨_, rfl⟩
  obtain ⟨X, hX⟩ : ∃ X, DM.argE d = X := ⟨_, rfl⟩
  have C0 : PCalls Try.prog G 25 [.one (dk1 d), lstD 1 (bolD (List.replicate d.cache.length true))] (outD D' X) := by
    have := rcrash_pc hG d (List.replicate d.cache.length true) b1 b2 (by simp; omega)
    rw [crash_all, hD', hX] at this
    exact this
  rw [hD', hX]
  unfold outD
  unfold dk1
  refine pcalls_of Try.func47 rfl (by simp [Try.ntmps47]) hG ?_; intro F hF hFG Q hQ; rw [Try.ntmps47] at hF; rw [Try.results47] at hQ
  subst hFG
  repeat (first | (refine acode_region_seq (by rw [hF]; kernel_rfl) ?_; (repeat (refine aops_step fun K1 hK1 => ?_; simp only [push_cast, Nat.reduceEqDiff, reduceCtorEq, Nat.reduceAdd, Nat.reduceMul, Nat.reduceSub, Nat.reduceLeDiff, Nat.reduceLT, Nat.reduceBEq, Nat.reducePow, Int.reduceEq, Int.reduceLT, Int.reduceLE, Int.reduceNeg, Int.reduceAdd, Int.reduceToNat, reduceIte, decide_true, decide_false]; (try simp (disch := omega) only [wrap64, wrap8]); (first | (refine hK1 _ ?_) | (refine ⟨by omega, hK1 _ ?_⟩) | (refine ⟨⟨by omega, by omega⟩, hK1 _ ?_⟩) | (refine ⟨⟨by omega, by omega, by omega⟩, hK1 _ ?_⟩)); clear hK1 K1)); refine aops_nil ?_) | (refine acode_region (by rw [hF]; kernel_rfl) ?_; (repeat (refine aops_step fun K1 hK1 => ?_; simp only [push_cast, Nat.reduceEqDiff, reduceCtorEq, Nat.reduceAdd, Nat.reduceMul, Nat.reduceSub, Nat.reduceLeDiff, Nat.reduceLT, Nat.reduceBEq, Nat.reducePow, Int.reduceEq, Int.reduceLT, Int.reduceLE, Int.reduceNeg, Int.reduceAdd, Int.reduceToNat, reduceIte, decide_true, decide_false]; (try simp (disch := omega) only [wrap64, wrap8]); (first | (refine hK1 _ ?_) | (refine ⟨by omega, hK1 _ ?_⟩) | (refine ⟨⟨by omega, by omega⟩, hK1 _ ?_⟩) | (refine ⟨⟨by omega, by omega, by omega⟩, hK1 _ ?_⟩)); clear hK1 K1)); refine aops_nil ?_) | (refine acode_seq ?_) | (refine acode_block ?_) | (refine acode_skip ?_) | (refine acode_exit ?_) | (refine acode_ret ?_) | (refine andThen_normal ?_) | (refine andThen_exit ?_) | (refine andThen_ret ?_) | (refine inBlock_normal ?_) | (refine inBlock_ret ?_) | (refine inBlock_same ?_) | (refine inBlock_other rfl ?_))
  refine acode_loop (fun n σ => ∃ k : Nat, k ≤ d.cache.length ∧ n = d.cache.length - k ∧ σ = flS d k) d.cache.length (flS d 0) ⟨0, Nat.zero_le _, by simp, rfl⟩ (by rw [flS_zero]; (refine Le.of ?_ ?_ ?_ <;> simp only [List.not_mem_nil, false_implies, implies_true, and_true, true_and, push_cast, Nat.reduceEqDiff, reduceCtorEq, Nat.reduceAdd, Nat.reduceMul, Nat.reduceSub, Nat.reduceLeDiff, Nat.reduceLT, Nat.reduceBEq, Nat.reducePow, Int.reduceEq, Int.reduceLT, Int.reduceLE, Int.reduceNeg, Int.reduceAdd, Int.reduceToNat, reduceIte, decide_true, decide_false])) ?_
  rintro n σ ⟨k, hk, rfl, rfl⟩
  cases k with
  | zero =>
    rw [flS_zero]
    by_cases hkn : (0 : Int) < (d.cache.length : Int)
    · repeat (first | (refine acode_region_seq (by rw [hF]; kernel_rfl) ?_; (repeat (refine aops_step fun K1 hK1 => ?_; simp only [push_cast, Nat.reduceEqDiff, reduceCtorEq, Nat.reduceAdd, Nat.reduceMul, Nat.reduceSub, Nat.reduceLeDiff, Nat.reduceLT, Nat.reduceBEq, Nat.reducePow, Int.reduceEq, Int.reduceLT, Int.reduceLE, Int.reduceNeg, Int.reduceAdd, Int.reduceToNat, reduceIte, decide_true, decide_false, hkn]; (try simp (disch := omega) only [wrap64, wrap8]); (first | (refine hK1 _ ?_) | (refine ⟨by omega, hK1 _ ?_⟩) | (refine ⟨⟨by omega, by omega⟩, hK1 _ ?_⟩) | (refine ⟨⟨by omega, by omega, by omega⟩, hK1 _ ?_⟩)); clear hK1 K1)); refine aops_nil ?_) | (refine acode_region (by rw [hF]; kernel_rfl) ?_; (repeat (refine aops_step fun K1 hK1 => ?_; simp only [push_cast, Nat.reduceEqDiff, reduceCtorEq, Nat.reduceAdd, Nat.reduceMul, Nat.reduceSub, Nat.reduceLeDiff, Nat.reduceLT, Nat.reduceBEq, Nat.reducePow, Int.reduceEq, Int.reduceLT, Int.reduceLE, Int.reduceNeg, Int.reduceAdd, Int.reduceToNat, reduceIte, decide_true, decide_false, hkn]; (try simp (disch := omega) only [wrap64, wrap8]); (first | (refine hK1 _ ?_) | (refine ⟨by omega, hK1 _ ?_⟩) | (refine ⟨⟨by omega, by omega⟩, hK1 _ ?_⟩) | (refine ⟨⟨by omega, by omega, by omega⟩, hK1 _ ?_⟩)); clear hK1 K1)); refine aops_nil ?_) | (refine acode_seq ?_) | (refine acode_block ?_) | (refine acode_skip ?_) | (refine acode_exit ?_) | (refine acode_ret ?_) | (refine andThen_normal ?_) | (refine andThen_exit ?_) | (refine andThen_ret ?_) | (refine inBlock_normal ?_) | (refine inBlock_ret ?_) | (refine inBlock_same ?_) | (refine inBlock_other rfl ?_))
      refine acode_true (by simp only [push_cast, Nat.reduceEqDiff, reduceCtorEq, Nat.reduceAdd, Nat.reduceMul, Nat.reduceSub, Nat.reduceLeDiff, Nat.reduceLT, Nat.reduceBEq, Nat.reducePow, Int.reduceEq, Int.reduceLT, Int.reduceLE, Int.reduceNeg, Int.reduceAdd, Int.reduceToNat, reduceIte, decide_true, decide_false]) ?_
      repeat (first | (refine acode_region_seq (by rw [hF]; kernel_rfl) ?_; (repeat (refine aops_step fun K1 hK1 => ?_; simp only [push_cast, Nat.reduceEqDiff, reduceCtorEq, Nat.reduceAdd, Nat.reduceMul, Nat.reduceSub, Nat.reduceLeDiff, Nat.reduceLT, Nat.reduceBEq, Nat.reducePow, Int.reduceEq, Int.reduceLT, Int.reduceLE, Int.reduceNeg, Int.reduceAdd, Int.reduceToNat, reduceIte, decide_true, decide_false]; (try simp (disch := omega) only [wrap64, wrap8]); (first | (refine hK1 _ ?_) | (refine ⟨by omega, hK1 _ ?_⟩) | (refine ⟨⟨by omega, by omega⟩, hK1 _ ?_⟩) | (refine ⟨⟨by omega, by omega, by omega⟩, hK1 _ ?_⟩)); clear hK1 K1)); refine aops_nil ?_) | (refine acode_region (by rw [hF]; kernel_rfl) ?_; (repeat (refine aops_step fun K1 hK1 => ?_; simp only [push_cast, Nat.reduceEqDiff, reduceCtorEq, Nat.reduceAdd, Nat.reduceMul, Nat.reduceSub, Nat.reduceLeDiff, Nat.reduceLT, Nat.reduceBEq, Nat.reducePow, Int.reduceEq, Int.reduceLT, Int.reduceLE, Int.reduceNeg, Int.reduceAdd, Int.reduceToNat, reduceIte, decide_true, decide_false]; (try simp (disch := omega) only [wrap64, wrap8]); (first | (refine hK1 _ ?_) | (refine ⟨by omega, hK1 _ ?_⟩) | (refine ⟨⟨by omega, by omega⟩, hK1 _ ?_⟩) | (refine ⟨⟨by omega, by omega, by omega⟩, hK1 _ ?_⟩)); clear hK1 K1)); refine aops_nil ?_) | (refine acode_seq ?_) | (refine acode_block ?_) | (refine acode_skip ?_) | (refine acode_exit ?_) | (refine acode_ret ?_) | (refine andThen_normal ?_) | (refine andThen_exit ?_) | (refine andThen_ret ?_) | (refine inBlock_normal ?_) | (refine inBlock_ret ?_) | (refine inBlock_same ?_) | (refine inBlock_other rfl ?_))
      refine ⟨_, _, ?_, ⟨0 + 1, by omega, rfl, rfl⟩, ?_⟩
      · omega
      · rw [flS_succ]
        (refine Le.of ?_ ?_ ?_ <;> simp only [List.not_mem_nil, false_implies, implies_true, and_true, true_and, push_cast, Nat.reduceEqDiff, reduceCtorEq, Nat.reduceAdd, Nat.reduceMul, Nat.reduceSub, Nat.reduceLeDiff, Nat.reduceLT, Nat.reduceBEq, Nat.reducePow, Int.reduceEq, Int.reduceLT, Int.reduceLE, Int.reduceNeg, Int.reduceAdd, Int.reduceToNat, reduceIte, decide_true, decide_false, exists_eq_left', Nat.le_refl, Row.mk.injEq])
        all_goals first | exact ⟨_, rfl⟩ | rfl
    · have hkl : d.cache.length = 0 := by omega
      rw [hkl] at C0
      repeat (first | (refine acode_region_seq (by rw [hF]; kernel_rfl) ?_; (repeat (refine aops_step fun K1 hK1 => ?_; simp only [push_cast, Nat.reduceEqDiff, reduceCtorEq, Nat.reduceAdd, Nat.reduceMul, Nat.reduceSub, Nat.reduceLeDiff, Nat.reduceLT, Nat.reduceBEq, Nat.reducePow, Int.reduceEq, Int.reduceLT, Int.reduceLE, Int.reduceNeg, Int.reduceAdd, Int.reduceToNat, reduceIte, decide_true, decide_false, hkn]; (try simp (disch := omega) only [wrap64, wrap8]); (first | (refine hK1 _ ?_) | (refine ⟨by omega, hK1 _ ?_⟩) | (refine ⟨⟨by omega, by omega⟩, hK1 _ ?_⟩) | (refine ⟨⟨by omega, by omega, by omega⟩, hK1 _ ?_⟩)); clear hK1 K1)); refine aops_nil ?_) | (refine acode_region (by rw [hF]; kernel_rfl) ?_; (repeat (refine aops_step fun K1 hK1 => ?_; simp only [push_cast, Nat.reduceEqDiff, reduceCtorEq, Nat.reduceAdd, Nat.reduceMul, Nat.reduceSub, Nat.reduceLeDiff, Nat.reduceLT, Nat.reduceBEq, Nat.reducePow, Int.reduceEq, Int.reduceLT, Int.reduceLE, Int.reduceNeg, Int.reduceAdd, Int.reduceToNat, reduceIte, decide_true, decide_false, hkn]; (try simp (disch := omega) only [wrap64, wrap8]); (first | (refine hK1 _ ?_) | (refine ⟨by omega, hK1 _ ?_⟩) | (refine ⟨⟨by omega, by omega⟩, hK1 _ ?_⟩) | (refine ⟨⟨by omega, by omega, by omega⟩, hK1 _ ?_⟩)); clear hK1 K1)); refine aops_nil ?_) | (refine acode_seq ?_) | (refine acode_block ?_) | (refine acode_skip ?_) | (refine acode_exit ?_) | (refine acode_ret ?_) | (refine andThen_normal ?_) | (refine andThen_exit ?_) | (refine andThen_ret ?_) | (refine inBlock_normal ?_) | (refine inBlock_ret ?_) | (refine inBlock_same ?_) | (refine inBlock_other rfl ?_))
      refine acode_false (by simp only [push_cast, Nat.reduceEqDiff, reduceCtorEq, Nat.reduceAdd, Nat.reduceMul, Nat.reduceSub, Nat.reduceLeDiff, Nat.reduceLT, Nat.reduceBEq, Nat.reducePow, Int.reduceEq, Int.reduceLT, Int.reduceLE, Int.reduceNeg, Int.reduceAdd, Int.reduceToNat, reduceIte, decide_true, decide_false]) ?_
      repeat (first | (refine acode_region_seq (by rw [hF]; kernel_rfl) ?_; (repeat (refine aops_step fun K1 hK1 => ?_; simp only [push_cast, Nat.reduceEqDiff, reduceCtorEq, Nat.reduceAdd, Nat.reduceMul, Nat.reduceSub, Nat.reduceLeDiff, Nat.reduceLT, Nat.reduceBEq, Nat.reducePow, Int.reduceEq, Int.reduceLT, Int.reduceLE, Int.reduceNeg, Int.reduceAdd, Int.reduceToNat, reduceIte, decide_true, decide_false]; (try simp (disch := omega) only [wrap64, wrap8]); (first | (refine hK1 _ ?_) | (refine ⟨by omega, hK1 _ ?_⟩) | (refine ⟨⟨by omega, by omega⟩, hK1 _ ?_⟩) | (refine ⟨⟨by omega, by omega, by omega⟩, hK1 _ ?_⟩)); clear hK1 K1)); refine aops_nil ?_) | (refine acode_region (by rw [hF]; kernel_rfl) ?_; (repeat (refine aops_step fun K1 hK1 => ?_; simp only [push_cast, Nat.reduceEqDiff, reduceCtorEq, Nat.reduceAdd, Nat.reduceMul, Nat.reduceSub, Nat.reduceLeDiff, Nat.reduceLT, Nat.reduceBEq, Nat.reducePow, Int.reduceEq, Int.reduceLT, Int.reduceLE, Int.reduceNeg, Int.reduceAdd, Int.reduceToNat, reduceIte, decide_true, decide_false]; (try simp (disch := omega) only [wrap64, wrap8]); (first | (refine hK1 _ ?_) | (refine ⟨by omega, hK1 _ ?_⟩) | (refine ⟨⟨by omega, by omega⟩, hK1 _ ?_⟩) | (refine ⟨⟨by omega, by omega, by omega⟩, hK1 _ ?_⟩)); clear hK1 K1)); refine aops_nil ?_) | (refine acode_seq ?_) | (refine acode_block ?_) | (refine acode_skip ?_) | (refine acode_exit ?_) | (refine acode_ret ?_) | (refine andThen_normal ?_) | (refine andThen_exit ?_) | (refine andThen_ret ?_) | (refine inBlock_normal ?_) | (refine inBlock_ret ?_) | (refine inBlock_same ?_) | (refine inBlock_other rfl ?_))
      (first | (refine acode_region_seq (by rw [hF]; kernel_rfl) ?_) | (refine acode_region (by rw [hF]; kernel_rfl) ?_)); (repeat (refine aops_step fun K1 hK1 => ?_; simp only [push_cast, Nat.reduceEqDiff, reduceCtorEq, Nat.reduceAdd, Nat.reduceMul, Nat.reduceSub, Nat.reduceLeDiff, Nat.reduceLT, Nat.reduceBEq, Nat.reducePow, Int.reduceEq, Int.reduceLT, Int.reduceLE, Int.reduceNeg, Int.reduceAdd, Int.reduceToNat, reduceIte, decide_true, decide_false]; (try simp (disch := omega) only [wrap64, wrap8]); (first | (refine hK1 _ ?_) | (refine ⟨by omega, hK1 _ ?_⟩) | (refine ⟨⟨by omega, by omega⟩, hK1 _ ?_⟩) | (refine ⟨⟨by omega, by omega, by omega⟩, hK1 _ ?_⟩)); clear hK1 K1))
      refine aops_call (by simp only [push_cast, Nat.reduceEqDiff, reduceCtorEq, Nat.reduceAdd, Nat.reduceMul, Nat.reduceSub, Nat.reduceLeDiff, Nat.reduceLT, Nat.reduceBEq, Nat.reducePow, Int.reduceEq, Int.reduceLT, Int.reduceLE, Int.reduceNeg, Int.reduceAdd, Int.reduceToNat, reduceIte, decide_true, decide_false, dk1]) rfl (by simp only [push_cast, Nat.reduceEqDiff, reduceCtorEq, Nat.reduceAdd, Nat.reduceMul, Nat.reduceSub, Nat.reduceLeDiff, Nat.reduceLT, Nat.reduceBEq, Nat.reducePow, Int.reduceEq, Int.reduceLT, Int.reduceLE, Int.reduceNeg, Int.reduceAdd, Int.reduceToNat, reduceIte, decide_true, decide_false, dk1]) (by kernel_rfl) (by simp only [push_cast, Nat.reduceEqDiff, reduceCtorEq, Nat.reduceAdd, Nat.reduceMul, Nat.reduceSub, Nat.reduceLeDiff, Nat.reduceLT, Nat.reduceBEq, Nat.reducePow, Int.reduceEq, Int.reduceLT, Int.reduceLE, Int.reduceNeg, Int.reduceAdd, Int.reduceToNat, reduceIte, decide_true, decide_false, dk1]) (C0.args (fun _ _ vs h => nil_args vs h)) ?_
      unfold outD dk1
      (repeat (refine aops_step fun K1 hK1 => ?_; simp only [push_cast, Nat.reduceEqDiff, reduceCtorEq, Nat.reduceAdd, Nat.reduceMul, Nat.reduceSub, Nat.reduceLeDiff, Nat.reduceLT, Nat.reduceBEq, Nat.reducePow, Int.reduceEq, Int.reduceLT, Int.reduceLE, Int.reduceNeg, Int.reduceAdd, Int.reduceToNat, reduceIte, decide_true, decide_false]; (try simp (disch := omega) only [wrap64, wrap8]); (first | (refine hK1 _ ?_) | (refine ⟨by omega, hK1 _ ?_⟩) | (refine ⟨⟨by omega, by omega⟩, hK1 _ ?_⟩) | (refine ⟨⟨by omega, by omega, by omega⟩, hK1 _ ?_⟩)); clear hK1 K1)); refine aops_nil ?_
      repeat (first | (refine acode_region_seq (by rw [hF]; kernel_rfl) ?_; (repeat (refine aops_step fun K1 hK1 => ?_; simp only [push_cast, Nat.reduceEqDiff, reduceCtorEq, Nat.reduceAdd, Nat.reduceMul, Nat.reduceSub, Nat.reduceLeDiff, Nat.reduceLT, Nat.reduceBEq, Nat.reducePow, Int.reduceEq, Int.reduceLT, Int.reduceLE, Int.reduceNeg, Int.reduceAdd, Int.reduceToNat, reduceIte, decide_true, decide_false]; (try simp (disch := omega) only [wrap64, wrap8]); (first | (refine hK1 _ ?_) | (refine ⟨by omega, hK1 _ ?_⟩) | (refine ⟨⟨by omega, by omega⟩, hK1 _ ?_⟩) | (refine ⟨⟨by omega, by omega, by omega⟩, hK1 _ ?_⟩)); clear hK1 K1)); refine aops_nil ?_) | (refine acode_region (by rw [hF]; kernel_rfl) ?_; (repeat (refine aops_step fun K1 hK1 => ?_; simp only [push_cast, Nat.reduceEqDiff, reduceCtorEq, Nat.reduceAdd, Nat.reduceMul, Nat.reduceSub, Nat.reduceLeDiff, Nat.reduceLT, Nat.reduceBEq, Nat.reducePow, Int.reduceEq, Int.reduceLT, Int.reduceLE, Int.reduceNeg, Int.reduceAdd, Int.reduceToNat, reduceIte, decide_true, decide_false]; (try simp (disch := omega) only [wrap64, wrap8]); (first | (refine hK1 _ ?_) | (refine ⟨by omega, hK1 _ ?_⟩) | (refine ⟨⟨by omega, by omega⟩, hK1 _ ?_⟩) | (refine ⟨⟨by omega, by omega, by omega⟩, hK1 _ ?_⟩)); clear hK1 K1)); refine aops_nil ?_) | (refine acode_seq ?_) | (refine acode_block ?_) | (refine acode_skip ?_) | (refine acode_exit ?_) | (refine acode_ret ?_) | (refine andThen_normal ?_) | (refine andThen_exit ?_) | (refine andThen_ret ?_) | (refine inBlock_normal ?_) | (refine inBlock_ret ?_) | (refine inBlock_same ?_) | (refine inBlock_other rfl ?_))
      refine (hQ _ ?_).2
      simp only [push_cast, Nat.reduceEqDiff, reduceCtorEq, Nat.reduceAdd, Nat.reduceMul, Nat.reduceSub, Nat.reduceLeDiff, Nat.reduceLT, Nat.reduceBEq, Nat.reducePow, Int.reduceEq, Int.reduceLT, Int.reduceLE, Int.reduceNeg, Int.reduceAdd, Int.reduceToNat, reduceIte, decide_true, decide_false]
  | succ k =>
    rw [flS_succ]
    have hl : (List.replicate (k + 1) true).length = k + 1 := List.length_replicate ..
    by_cases hkn : (k : Int) + 1 < (d.cache.length : Int)
    · repeat (first | (refine acode_region_seq (by rw [hF]; kernel_rfl) ?_; (repeat (refine aops_step fun K1 hK1 => ?_; simp only [push_cast, Nat.reduceEqDiff, reduceCtorEq, Nat.reduceAdd, Nat.reduceMul, Nat.reduceSub, Nat.reduceLeDiff, Nat.reduceLT, Nat.reduceBEq, Nat.reducePow, Int.reduceEq, Int.reduceLT, Int.reduceLE, Int.reduceNeg, Int.reduceAdd, Int.reduceToNat, reduceIte, decide_true, decide_false, hkn, hl]; (try simp (disch := omega) only [wrap64, wrap8]); (first | (refine hK1 _ ?_) | (refine ⟨by omega, hK1 _ ?_⟩) | (refine ⟨⟨by omega, by omega⟩, hK1 _ ?_⟩) | (refine ⟨⟨by omega, by omega, by omega⟩, hK1 _ ?_⟩)); clear hK1 K1)); refine aops_nil ?_) | (refine acode_region (by rw [hF]; kernel_rfl) ?_; (repeat (refine aops_step fun K1 hK1 => ?_; simp only [push_cast, Nat.reduceEqDiff, reduceCtorEq, Nat.reduceAdd, Nat.reduceMul, Nat.reduceSub, Nat.reduceLeDiff, Nat.reduceLT, Nat.reduceBEq, Nat.reducePow, Int.reduceEq, Int.reduceLT, Int.reduceLE, Int.reduceNeg, Int.reduceAdd, Int.reduceToNat, reduceIte, decide_true, decide_false, hkn, hl]; (try simp (disch := omega) only [wrap64, wrap8]); (first | (refine hK1 _ ?_) | (refine ⟨by omega, hK1 _ ?_⟩) | (refine ⟨⟨by omega, by omega⟩, hK1 _ ?_⟩) | (refine ⟨⟨by omega, by omega, by omega⟩, hK1 _ ?_⟩)); clear hK1 K1)); refine aops_nil ?_) | (refine acode_seq ?_) | (refine acode_block ?_) | (refine acode_skip ?_) | (refine acode_exit ?_) | (refine acode_ret ?_) | (refine andThen_normal ?_) | (refine andThen_exit ?_) | (refine andThen_ret ?_) | (refine inBlock_normal ?_) | (refine inBlock_ret ?_) | (refine inBlock_same ?_) | (refine inBlock_other rfl ?_))
      refine acode_true (by simp only [push_cast, Nat.reduceEqDiff, reduceCtorEq, Nat.reduceAdd, Nat.reduceMul, Nat.reduceSub, Nat.reduceLeDiff, Nat.reduceLT, Nat.reduceBEq, Nat.reducePow, Int.reduceEq, Int.reduceLT, Int.reduceLE, Int.reduceNeg, Int.reduceAdd, Int.reduceToNat, reduceIte, decide_true, decide_false]) ?_
      repeat (first | (refine acode_region_seq (by rw [hF]; kernel_rfl) ?_; (repeat (refine aops_step fun K1 hK1 => ?_; simp only [push_cast, Nat.reduceEqDiff, reduceCtorEq, Nat.reduceAdd, Nat.reduceMul, Nat.reduceSub, Nat.reduceLeDiff, Nat.reduceLT, Nat.reduceBEq, Nat.reducePow, Int.reduceEq, Int.reduceLT, Int.reduceLE, Int.reduceNeg, Int.reduceAdd, Int.reduceToNat, reduceIte, decide_true, decide_false, hl]; (try simp (disch := omega) only [wrap64, wrap8]); (first | (refine hK1 _ ?_) | (refine ⟨by omega, hK1 _ ?_⟩) | (refine ⟨⟨by omega, by omega⟩, hK1 _ ?_⟩) | (refine ⟨⟨by omega, by omega, by omega⟩, hK1 _ ?_⟩)); clear hK1 K1)); refine aops_nil ?_) | (refine acode_region (by rw [hF]; kernel_rfl) ?_; (repeat (refine aops_step fun K1 hK1 => ?_; simp only [push_cast, Nat.reduceEqDiff, reduceCtorEq, Nat.reduceAdd, Nat.reduceMul, Nat.reduceSub, Nat.reduceLeDiff, Nat.reduceLT, Nat.reduceBEq, Nat.reducePow, Int.reduceEq, Int.reduceLT, Int.reduceLE, Int.reduceNeg, Int.reduceAdd, Int.reduceToNat, reduceIte, decide_true, decide_false, hl]; (try simp (disch := omega) only [wrap64, wrap8]); (first | (refine hK1 _ ?_) | (refine ⟨by omega, hK1 _ ?_⟩) | (refine ⟨⟨by omega, by omega⟩, hK1 _ ?_⟩) | (refine ⟨⟨by omega, by omega, by omega⟩, hK1 _ ?_⟩)); clear hK1 K1)); refine aops_nil ?_) | (refine acode_seq ?_) | (refine acode_block ?_) | (refine acode_skip ?_) | (refine acode_exit ?_) | (refine acode_ret ?_) | (refine andThen_normal ?_) | (refine andThen_exit ?_) | (refine andThen_ret ?_) | (refine inBlock_normal ?_) | (refine inBlock_ret ?_) | (refine inBlock_same ?_) | (refine inBlock_other rfl ?_))
      refine ⟨_, _, ?_, ⟨k + 1 + 1, by omega, rfl, rfl⟩, ?_⟩
      · omega
      · rw [flS_succ]
        (refine Le.of ?_ ?_ ?_ <;> simp only [List.not_mem_nil, false_implies, implies_true, and_true, true_and, push_cast, Nat.reduceEqDiff, reduceCtorEq, Nat.reduceAdd, Nat.reduceMul, Nat.reduceSub, Nat.reduceLeDiff, Nat.reduceLT, Nat.reduceBEq, Nat.reducePow, Int.reduceEq, Int.reduceLT, Int.reduceLE, Int.reduceNeg, Int.reduceAdd, Int.reduceToNat, reduceIte, decide_true, decide_false, exists_eq_left', Nat.le_refl, Row.mk.injEq])
        all_goals first | exact ⟨_, rfl⟩ | exact bolD_snoc _
    · have hkl : k + 1 = d.cache.length := by omega
      rw [← hkl] at C0
      repeat (first | (refine acode_region_seq (by rw [hF]; kernel_rfl) ?_; (repeat (refine aops_step fun K1 hK1 => ?_; simp only [push_cast, Nat.reduceEqDiff, reduceCtorEq, Nat.reduceAdd, Nat.reduceMul, Nat.reduceSub, Nat.reduceLeDiff, Nat.reduceLT, Nat.reduceBEq, Nat.reducePow, Int.reduceEq, Int.reduceLT, Int.reduceLE, Int.reduceNeg, Int.reduceAdd, Int.reduceToNat, reduceIte, decide_true, decide_false, hkn]; (try simp (disch := omega) only [wrap64, wrap8]); (first | (refine hK1 _ ?_) | (refine ⟨by omega, hK1 _ ?_⟩) | (refine ⟨⟨by omega, by omega⟩, hK1 _ ?_⟩) | (refine ⟨⟨by omega, by omega, by omega⟩, hK1 _ ?_⟩)); clear hK1 K1)); refine aops_nil ?_) | (refine acode_region (by rw [hF]; kernel_rfl) ?_; (repeat (refine aops_step fun K1 hK1 => ?_; simp only [push_cast, Nat.reduceEqDiff, reduceCtorEq, Nat.reduceAdd, Nat.reduceMul, Nat.reduceSub, Nat.reduceLeDiff, Nat.reduceLT, Nat.reduceBEq, Nat.reducePow, Int.reduceEq, Int.reduceLT, Int.reduceLE, Int.reduceNeg, Int.reduceAdd, Int.reduceToNat, reduceIte, decide_true, decide_false, hkn]; (try simp (disch := omega) only [wrap64, wrap8]); (first | (refine hK1 _ ?_) | (refine ⟨by omega, hK1 _ ?_⟩) | (refine ⟨⟨by omega, by omega⟩, hK1 _ ?_⟩) | (refine ⟨⟨by omega, by omega, by omega⟩, hK1 _ ?_⟩)); clear hK1 K1)); refine aops_nil ?_) | (refine acode_seq ?_) | (refine acode_block ?_) | (refine acode_skip ?_) | (refine acode_exit ?_) | (refine acode_ret ?_) | (refine andThen_normal ?_) | (refine andThen_exit ?_) | (refine andThen_ret ?_) | (refine inBlock_normal ?_) | (refine inBlock_ret ?_) | (refine inBlock_same ?_) | (refine inBlock_other rfl ?_))
      refine acode_false (by simp only [push_cast, Nat.reduceEqDiff, reduceCtorEq, Nat.reduceAdd, Nat.reduceMul, Nat.reduceSub, Nat.reduceLeDiff, Nat.reduceLT, Nat.reduceBEq, Nat.reducePow, Int.reduceEq, Int.reduceLT, Int.reduceLE, Int.reduceNeg, Int.reduceAdd, Int.reduceToNat, reduceIte, decide_true, decide_false]) ?_
      repeat (first | (refine acode_region_seq (by rw [hF]; kernel_rfl) ?_; (repeat (refine aops_step fun K1 hK1 => ?_; simp only [push_cast, Nat.reduceEqDiff, reduceCtorEq, Nat.reduceAdd, Nat.reduceMul, Nat.reduceSub, Nat.reduceLeDiff, Nat.reduceLT, Nat.reduceBEq, Nat.reducePow, Int.reduceEq, Int.reduceLT, Int.reduceLE, Int.reduceNeg, Int.reduceAdd, Int.reduceToNat, reduceIte, decide_true, decide_false]; (try simp (disch := omega) only [wrap64, wrap8]); (first | (refine hK1 _ ?_) | (refine ⟨by omega, hK1 _ ?_⟩) | (refine ⟨⟨by omega, by omega⟩, hK1 _ ?_⟩) | (refine ⟨⟨by omega, by omega, by omega⟩, hK1 _ ?_⟩)); clear hK1 K1)); refine aops_nil ?_) | (refine acode_region (by rw [hF]; kernel_rfl) ?_; (repeat (refine aops_step fun K1 hK1 => ?_; simp only [push_cast, Nat.reduceEqDiff, reduceCtorEq, Nat.reduceAdd, Nat.reduceMul, Nat.reduceSub, Nat.reduceLeDiff, Nat.reduceLT, Nat.reduceBEq, Nat.reducePow, Int.reduceEq, Int.reduceLT, Int.reduceLE, Int.reduceNeg, Int.reduceAdd, Int.reduceToNat, reduceIte, decide_true, decide_false]; (try simp (disch := omega) only [wrap64, wrap8]); (first | (refine hK1 _ ?_) | (refine ⟨by omega, hK1 _ ?_⟩) | (refine ⟨⟨by omega, by omega⟩, hK1 _ ?_⟩) | (refine ⟨⟨by omega, by omega, by omega⟩, hK1 _ ?_⟩)); clear hK1 K1)); refine aops_nil ?_) | (refine acode_seq ?_) | (refine acode_block ?_) | (refine acode_skip ?_) | (refine acode_exit ?_) | (refine acode_ret ?_) | (refine andThen_normal ?_) | (refine andThen_exit ?_) | (refine andThen_ret ?_) | (refine inBlock_normal ?_) | (refine inBlock_ret ?_) | (refine inBlock_same ?_) | (refine inBlock_other rfl ?_))
      refine acode_frz ?_
      (first | (refine acode_region_seq (by rw [hF]; kernel_rfl) ?_) | (refine acode_region (by rw [hF]; kernel_rfl) ?_)); (repeat (refine aops_step fun K1 hK1 => ?_; simp only [push_cast, Nat.reduceEqDiff, reduceCtorEq, Nat.reduceAdd, Nat.reduceMul, Nat.reduceSub, Nat.reduceLeDiff, Nat.reduceLT, Nat.reduceBEq, Nat.reducePow, Int.reduceEq, Int.reduceLT, Int.reduceLE, Int.reduceNeg, Int.reduceAdd, Int.reduceToNat, reduceIte, decide_true, decide_false]; (try simp (disch := omega) only [wrap64, wrap8]); (first | (refine hK1 _ ?_) | (refine ⟨by omega, hK1 _ ?_⟩) | (refine ⟨⟨by omega, by omega⟩, hK1 _ ?_⟩) | (refine ⟨⟨by omega, by omega, by omega⟩, hK1 _ ?_⟩)); clear hK1 K1))
      refine aops_call (by simp only [push_cast, Nat.reduceEqDiff, reduceCtorEq, Nat.reduceAdd, Nat.reduceMul, Nat.reduceSub, Nat.reduceLeDiff, Nat.reduceLT, Nat.reduceBEq, Nat.reducePow, Int.reduceEq, Int.reduceLT, Int.reduceLE, Int.reduceNeg, Int.reduceAdd, Int.reduceToNat, reduceIte, decide_true, decide_false, dk1, frz]) rfl (by simp only [push_cast, Nat.reduceEqDiff, reduceCtorEq, Nat.reduceAdd, Nat.reduceMul, Nat.reduceSub, Nat.reduceLeDiff, Nat.reduceLT, Nat.reduceBEq, Nat.reducePow, Int.reduceEq, Int.reduceLT, Int.reduceLE, Int.reduceNeg, Int.reduceAdd, Int.reduceToNat, reduceIte, decide_true, decide_false, dk1, frz]) (by kernel_rfl) (by simp only [push_cast, Nat.reduceEqDiff, reduceCtorEq, Nat.reduceAdd, Nat.reduceMul, Nat.reduceSub, Nat.reduceLeDiff, Nat.reduceLT, Nat.reduceBEq, Nat.reducePow, Int.reduceEq, Int.reduceLT, Int.reduceLE, Int.reduceNeg, Int.reduceAdd, Int.reduceToNat, reduceIte, decide_true, decide_false, dk1, frz]) (C0) ?_
      unfold outD dk1
      (repeat (refine aops_step fun K1 hK1 => ?_; simp only [push_cast, Nat.reduceEqDiff, reduceCtorEq, Nat.reduceAdd, Nat.reduceMul, Nat.reduceSub, Nat.reduceLeDiff, Nat.reduceLT, Nat.reduceBEq, Nat.reducePow, Int.reduceEq, Int.reduceLT, Int.reduceLE, Int.reduceNeg, Int.reduceAdd, Int.reduceToNat, reduceIte, decide_true, decide_false]; (try simp (disch := omega) only [wrap64, wrap8]); (first | (refine hK1 _ ?_) | (refine ⟨by omega, hK1 _ ?_⟩) | (refine ⟨⟨by omega, by omega⟩, hK1 _ ?_⟩) | (refine ⟨⟨by omega, by omega, by omega⟩, hK1 _ ?_⟩)); clear hK1 K1)); refine aops_nil ?_
      repeat (first | (refine acode_region_seq (by rw [hF]; kernel_rfl) ?_; (repeat (refine aops_step fun K1 hK1 => ?_; simp only [push_cast, Nat.reduceEqDiff, reduceCtorEq, Nat.reduceAdd, Nat.reduceMul, Nat.reduceSub, Nat.reduceLeDiff, Nat.reduceLT, Nat.reduceBEq, Nat.reducePow, Int.reduceEq, Int.reduceLT, Int.reduceLE, Int.reduceNeg, Int.reduceAdd, Int.reduceToNat, reduceIte, decide_true, decide_false]; (try simp (disch := omega) only [wrap64, wrap8]); (first | (refine hK1 _ ?_) | (refine ⟨by omega, hK1 _ ?_⟩) | (refine ⟨⟨by omega, by omega⟩, hK1 _ ?_⟩) | (refine ⟨⟨by omega, by omega, by omega⟩, hK1 _ ?_⟩)); clear hK1 K1)); refine aops_nil ?_) | (refine acode_region (by rw [hF]; kernel_rfl) ?_; (repeat (refine aops_step fun K1 hK1 => ?_; simp only [push_cast, Nat.reduceEqDiff, reduceCtorEq, Nat.reduceAdd, Nat.reduceMul, Nat.reduceSub, Nat.reduceLeDiff, Nat.reduceLT, Nat.reduceBEq, Nat.reducePow, Int.reduceEq, Int.reduceLT, Int.reduceLE, Int.reduceNeg, Int.reduceAdd, Int.reduceToNat, reduceIte, decide_true, decide_false]; (try simp (disch := omega) only [wrap64, wrap8]); (first | (refine hK1 _ ?_) | (refine ⟨by omega, hK1 _ ?_⟩) | (refine ⟨⟨by omega, by omega⟩, hK1 _ ?_⟩) | (refine ⟨⟨by omega, by omega, by omega⟩, hK1 _ ?_⟩)); clear hK1 K1)); refine aops_nil ?_) | (refine acode_seq ?_) | (refine acode_block ?_) | (refine acode_skip ?_) | (refine acode_exit ?_) | (refine acode_ret ?_) | (refine andThen_normal ?_) | (refine andThen_exit ?_) | (refine andThen_ret ?_) | (refine inBlock_normal ?_) | (refine inBlock_ret ?_) | (refine inBlock_same ?_) | (refine inBlock_other rfl ?_))
      refine (hQ _ ?_).2
      simp only [push_cast, Nat.reduceEqDiff, reduceCtorEq, Nat.reduceAdd, Nat.reduceMul, Nat.reduceSub, Nat.reduceLeDiff, Nat.reduceLT, Nat.reduceBEq, Nat.reducePow, Int.reduceEq, Int.reduceLT, Int.reduceLE, Int.reduceNeg, Int.reduceAdd, Int.reduceToNat, reduceIte, decide_true, decide_false]
end Go.Proofs.Ytabmdijfholakaa.AM

/- The document's answers of layer 1, by the plain machine: New. -/
namespace Go.Proofs.Ytabmdijfholakaa.AM
open Go.RowKit
set_option linter.unusedVariables false
set_option linter.unusedSimpArgs false
abbrev okD (d : DM.Dk) (x : Bool) : D := .tup [dk1 d, .c (valC (.bool x))]
theorem new_out0 {Pc : Nat → Nat → Prop} {w : World} {v : Value} {x : Bool} (h : DRep (noEnv Pc) noSt w v (.tup [.agg nilC, .c (valC (.bool x))])) : DRep (noEnv Pc) noSt w v (okD ⟨[], []⟩ x) := by
  obtain ⟨vs, rfl, h⟩ := h
  obtain ⟨L⟩ := vs
  match L, h with
  | [x, y], ⟨⟨us, e, h1⟩, h2, _⟩ =>
    obtain ⟨M⟩ := us
    match M, e, h1 with
    | [a, b], e, ⟨g1, g2, _⟩ => exact ⟨_, rfl, ⟨_, e, datRep_nil 1 g1, datRep_nil 2 g2, trivial⟩, h2, trivial⟩
theorem new_out1 {Pc : Nat → Nat → Prop} {w : World} {v : Value} {l : List ByteArray} {x : Bool} (h : DRep (noEnv Pc) noSt w v (.tup [.agg [.d (.lst 1 (secD l)), .d (.v (.slice none 0 0))], .c (valC (.bool x))])) : DRep (noEnv Pc) noSt w v (okD ⟨l, []⟩ x) := by
  obtain ⟨vs, rfl, h⟩ := h
  obtain ⟨L⟩ := vs
  match L, h with
  | [x, y], ⟨⟨us, e, h1⟩, h2, _⟩ =>
    obtain ⟨M⟩ := us
    match M, e, h1 with
    | [a, b], e, ⟨g1, g2, _⟩ => exact ⟨_, rfl, ⟨_, e, g1, datRep_nil 2 g2, trivial⟩, h2, trivial⟩
theorem rnew_no {G : World → Prop} (hG : Stab G) (n : Int) (hn : ¬ DM.newOk n) : PCalls Try.prog G 19 [valD (.int .i64 n)] (.tup [.agg nilC, .c (valC (.bool false))]) := by
  have hc : n < 1 ∨ (¬ n < 1 ∧ 512 < n) := by unfold DM.newOk at hn; omega
  refine pcalls_of Try.func19 rfl (by simp [Try.ntmps19]) hG ?_; intro F hF hFG Q hQ; rw [Try.ntmps19] at hF; rw [Try.results19] at hQ
  rcases hc with h | ⟨h, h2⟩
  · repeat (first | (refine acode_region_seq (by rw [hF]; kernel_rfl) ?_; (repeat (refine aops_step fun K1 hK1 => ?_; simp only [push_cast, Nat.reduceEqDiff, reduceCtorEq, Nat.reduceAdd, Nat.reduceMul, Nat.reduceSub, Nat.reduceLeDiff, Nat.reduceLT, Nat.reduceBEq, Nat.reducePow, Int.reduceEq, Int.reduceLT, Int.reduceLE, Int.reduceNeg, Int.reduceAdd, Int.reduceToNat, reduceIte, decide_true, decide_false, h]; (try simp (disch := omega) only [wrap64, wrap8]); (first | (refine hK1 _ ?_) | (refine ⟨by omega, hK1 _ ?_⟩) | (refine ⟨⟨by omega, by omega⟩, hK1 _ ?_⟩) | (refine ⟨⟨by omega, by omega, by omega⟩, hK1 _ ?_⟩)); clear hK1 K1)); refine aops_nil ?_) | (refine acode_region (by rw [hF]; kernel_rfl) ?_; (repeat (refine aops_step fun K1 hK1 => ?_; simp only [push_cast, Nat.reduceEqDiff, reduceCtorEq, Nat.reduceAdd, Nat.reduceMul, Nat.reduceSub, Nat.reduceLeDiff, Nat.reduceLT, Nat.reduceBEq, Nat.reducePow, Int.reduceEq, Int.reduceLT, Int.reduceLE, Int.reduceNeg, Int.reduceAdd, Int.reduceToNat, reduceIte, decide_true, decide_false, h]; (try simp (disch := omega) only [wrap64, wrap8]); (first | (refine hK1 _ ?_) | (refine ⟨by omega, hK1 _ ?_⟩) | (refine ⟨⟨by omega, by omega⟩, hK1 _ ?_⟩) | (refine ⟨⟨by omega, by omega, by omega⟩, hK1 _ ?_⟩)); clear hK1 K1)); refine aops_nil ?_) | (refine acode_seq ?_) | (refine acode_block ?_) | (refine acode_skip ?_) | (refine acode_exit ?_) | (refine acode_ret ?_) | (refine andThen_normal ?_) | (refine andThen_exit ?_) | (refine andThen_ret ?_) | (refine inBlock_normal ?_) | (refine inBlock_ret ?_) | (refine inBlock_same ?_) | (refine inBlock_other rfl ?_))
    refine acode_true (by simp only [push_cast, Nat.reduceEqDiff, reduceCtorEq, Nat.reduceAdd, Nat.reduceMul, Nat.reduceSub, Nat.reduceLeDiff, Nat.reduceLT, Nat.reduceBEq, Nat.reducePow, Int.reduceEq, Int.reduceLT, Int.reduceLE, Int.reduceNeg, Int.reduceAdd, Int.reduceToNat, reduceIte, decide_true, decide_false]) ?_
    repeat (first | (refine acode_region_seq (by rw [hF]; kernel_rfl) ?_; (repeat (refine aops_step fun K1 hK1 => ?_; simp only [push_cast, Nat.reduceEqDiff, reduceCtorEq, Nat.reduceAdd, Nat.reduceMul, Nat.reduceSub, Nat.reduceLeDiff, Nat.reduceLT, Nat.reduceBEq, Nat.reducePow, Int.reduceEq, Int.reduceLT, Int.reduceLE, Int.reduceNeg, Int.reduceAdd, Int.reduceToNat, reduceIte, decide_true, decide_false]; (try simp (disch := omega) only [wrap64, wrap8]); (first | (refine hK1 _ ?_) | (refine ⟨by omega, hK1 _ ?_⟩) | (refine ⟨⟨by omega, by omega⟩, hK1 _ ?_⟩) | (refine ⟨⟨by omega, by omega, by omega⟩, hK1 _ ?_⟩)); clear hK1 K1)); refine aops_nil ?_) | (refine acode_region (by rw [hF]; kernel_rfl) ?_; (repeat (refine aops_step fun K1 hK1 => ?_; simp only [push_cast, Nat.reduceEqDiff, reduceCtorEq, Nat.reduceAdd, Nat.reduceMul, Nat.reduceSub, Nat.reduceLeDiff, Nat.reduceLT, Nat.reduceBEq, Nat.reducePow, Int.reduceEq, Int.reduceLT, Int.reduceLE, Int.reduceNeg, Int.reduceAdd, Int.reduceToNat, reduceIte, decide_true, decide_false]; (try simp (disch := omega) only [wrap64, wrap8]); (first | (refine hK1 _ ?_) | (refine ⟨by omega, hK1 _ ?_⟩) | (refine ⟨⟨by omega, by omega⟩, hK1 _ ?_⟩) | (refine ⟨⟨by omega, by omega, by omega⟩, hK1 _ ?_⟩)); clear hK1 K1)); refine aops_nil ?_) | (refine acode_seq ?_) | (refine acode_block ?_) | (refine acode_skip ?_) | (refine acode_exit ?_) | (refine acode_ret ?_) | (refine andThen_normal ?_) | (refine andThen_exit ?_) | (refine andThen_ret ?_) | (refine inBlock_normal ?_) | (refine inBlock_ret ?_) | (refine inBlock_same ?_) | (refine inBlock_other rfl ?_))
    refine (hQ _ ?_).2
    simp only [push_cast, Nat.reduceEqDiff, reduceCtorEq, Nat.reduceAdd, Nat.reduceMul, Nat.reduceSub, Nat.reduceLeDiff, Nat.reduceLT, Nat.reduceBEq, Nat.reducePow, Int.reduceEq, Int.reduceLT, Int.reduceLE, Int.reduceNeg, Int.reduceAdd, Int.reduceToNat, reduceIte, decide_true, decide_false]
  · repeat (first | (refine acode_region_seq (by rw [hF]; kernel_rfl) ?_; (repeat (refine aops_step fun K1 hK1 => ?_; simp only [push_cast, Nat.reduceEqDiff, reduceCtorEq, Nat.reduceAdd, Nat.reduceMul, Nat.reduceSub, Nat.reduceLeDiff, Nat.reduceLT, Nat.reduceBEq, Nat.reducePow, Int.reduceEq, Int.reduceLT, Int.reduceLE, Int.reduceNeg, Int.reduceAdd, Int.reduceToNat, reduceIte, decide_true, decide_false, h, h2]; (try simp (disch := omega) only [wrap64, wrap8]); (first | (refine hK1 _ ?_) | (refine ⟨by omega, hK1 _ ?_⟩) | (refine ⟨⟨by omega, by omega⟩, hK1 _ ?_⟩) | (refine ⟨⟨by omega, by omega, by omega⟩, hK1 _ ?_⟩)); clear hK1 K1)); refine aops_nil ?_) | (refine acode_region (by rw [hF]; kernel_rfl) ?_; (repeat (refine aops_step fun K1 hK1 => ?_; simp only [push_cast, Nat.reduceEqDiff, reduceCtorEq, Nat.reduceAdd, Nat.reduceMul, Nat.reduceSub, Nat.reduceLeDiff, Nat.reduceLT, Nat.reduceBEq, Nat.reducePow, Int.reduceEq, Int.reduceLT, Int.reduceLE, Int.reduceNeg, Int.reduceAdd, Int.reduceToNat, reduceIte, decide_true, decide_false, h, h2]; (try simp (disch := omega) only [wrap64, wrap8]); (first | (refine hK1 _ ?_) | (refine ⟨by omega, hK1 _ ?_⟩) | (refine ⟨⟨by omega, by omega⟩, hK1 _ ?_⟩) | (refine ⟨⟨by omega, by omega, by omega⟩, hK1 _ ?_⟩)); clear hK1 K1)); refine aops_nil ?_) | (refine acode_seq ?_) | (refine acode_block ?_) | (refine acode_skip ?_) | (refine acode_exit ?_) | (refine acode_ret ?_) | (refine andThen_normal ?_) | (refine andThen_exit ?_) | (refine andThen_ret ?_) | (refine inBlock_normal ?_) | (refine inBlock_ret ?_) | (refine inBlock_same ?_) | (refine inBlock_other rfl ?_))
    refine acode_true (by simp only [push_cast, Nat.reduceEqDiff, reduceCtorEq, Nat.reduceAdd, Nat.reduceMul, Nat.reduceSub, Nat.reduceLeDiff, Nat.reduceLT, Nat.reduceBEq, Nat.reducePow, Int.reduceEq, Int.reduceLT, Int.reduceLE, Int.reduceNeg, Int.reduceAdd, Int.reduceToNat, reduceIte, decide_true, decide_false]) ?_
    repeat (first | (refine acode_region_seq (by rw [hF]; kernel_rfl) ?_; (repeat (refine aops_step fun K1 hK1 => ?_; simp only [push_cast, Nat.reduceEqDiff, reduceCtorEq, Nat.reduceAdd, Nat.reduceMul, Nat.reduceSub, Nat.reduceLeDiff, Nat.reduceLT, Nat.reduceBEq, Nat.reducePow, Int.reduceEq, Int.reduceLT, Int.reduceLE, Int.reduceNeg, Int.reduceAdd, Int.reduceToNat, reduceIte, decide_true, decide_false]; (try simp (disch := omega) only [wrap64, wrap8]); (first | (refine hK1 _ ?_) | (refine ⟨by omega, hK1 _ ?_⟩) | (refine ⟨⟨by omega, by omega⟩, hK1 _ ?_⟩) | (refine ⟨⟨by omega, by omega, by omega⟩, hK1 _ ?_⟩)); clear hK1 K1)); refine aops_nil ?_) | (refine acode_region (by rw [hF]; kernel_rfl) ?_; (repeat (refine aops_step fun K1 hK1 => ?_; simp only [push_cast, Nat.reduceEqDiff, reduceCtorEq, Nat.reduceAdd, Nat.reduceMul, Nat.reduceSub, Nat.reduceLeDiff, Nat.reduceLT, Nat.reduceBEq, Nat.reducePow, Int.reduceEq, Int.reduceLT, Int.reduceLE, Int.reduceNeg, Int.reduceAdd, Int.reduceToNat, reduceIte, decide_true, decide_false]; (try simp (disch := omega) only [wrap64, wrap8]); (first | (refine hK1 _ ?_) | (refine ⟨by omega, hK1 _ ?_⟩) | (refine ⟨⟨by omega, by omega⟩, hK1 _ ?_⟩) | (refine ⟨⟨by omega, by omega, by omega⟩, hK1 _ ?_⟩)); clear hK1 K1)); refine aops_nil ?_) | (refine acode_seq ?_) | (refine acode_block ?_) | (refine acode_skip ?_) | (refine acode_exit ?_) | (refine acode_ret ?_) | (refine andThen_normal ?_) | (refine andThen_exit ?_) | (refine andThen_ret ?_) | (refine inBlock_normal ?_) | (refine inBlock_ret ?_) | (refine inBlock_same ?_) | (refine inBlock_other rfl ?_))
    refine (hQ _ ?_).2
    simp only [push_cast, Nat.reduceEqDiff, reduceCtorEq, Nat.reduceAdd, Nat.reduceMul, Nat.reduceSub, Nat.reduceLeDiff, Nat.reduceLT, Nat.reduceBEq, Nat.reducePow, Int.reduceEq, Int.reduceLT, Int.reduceLE, Int.reduceNeg, Int.reduceAdd, Int.reduceToNat, reduceIte, decide_true, decide_false]
def nwS (n : Nat) : Nat → St
  | 0 => St.of [(0, valD (.int .i64 n)), (2, .one (.c (.box 2 0))), (4, .one (.c (.box 4 0))), (5, valD (.int .i64 0))] [(2, (25, nilC)), (4, (25, nilC))] []
  | k + 1 => St.of [(0, valD (.int .i64 n)), (2, .one (.c (.box 2 0))), (4, .one (.c (.box 4 0))), (5, valD (.int .i64 ((k + 1 : Nat) : Int)))] [(2, (25, nilC)), (4, (25, [.row 24 k, .d (.v (.slice none 0 0))]))] [(24, { gen := k, E := 9, sz := 1, wr := true, xs := secD (List.replicate (k + 1) DM.zeroS) })]
theorem nwS_zero (n : Nat) : nwS n 0 = St.of [(0, valD (.int .i64 n)), (2, .one (.c (.box 2 0))), (4, .one (.c (.box 4 0))), (5, valD (.int .i64 0))] [(2, (25, nilC)), (4, (25, nilC))] [] := rfl
theorem nwS_succ (n k : Nat) : nwS n (k + 1) = St.of [(0, valD (.int .i64 n)), (2, .one (.c (.box 2 0))), (4, .one (.c (.box 4 0))), (5, valD (.int .i64 ((k + 1 : Nat) : Int)))] [(2, (25, nilC)), (4, (25, [.row 24 k, .d (.v (.slice none 0 0))]))] [(24, { gen := k, E := 9, sz := 1, wr := true, xs := secD (List.replicate (k + 1) DM.zeroS) })] := rfl
theorem secD_snoc (k : Nat) : secD (List.replicate k DM.zeroS) ++ [[.v (.string DM.zeroS)]] = secD (List.replicate (k + 1) DM.zeroS) := by simp [secD, List.replicate_succ']
set_option maxHeartbeats 1600000 in
theorem rnew_yes {G : World → Prop} (hG : Stab G) (n : Nat) (h1 : 1 ≤ n) (h2 : n ≤ 512) : PCalls Try.prog G 19 [valD (.int .i64 n)] (.tup [.agg [.d (.lst 1 (secD (List.replicate n DM.zeroS))), .d (.v (.slice none 0 0))], .c (valC (.bool true))]) := by
  have k1 : ¬ (n : Int) < 1 := by omega
  have k2 : ¬ (512 : Int) < (n : Int) := by omega
  refine pcalls_of Try.func19 rfl (by simp [Try.ntmps19]) hG ?_; intro F hF hFG Q hQ; rw [Try.ntmps19] at hF; rw [Try.results19] at hQ
  repeat (first | (refine acode_region_seq (by rw [hF]; kernel_rfl) ?_; (repeat (refine aops_step fun K1 hK1 => ?_; simp only [push_cast, Nat.reduceEqDiff, reduceCtorEq, Nat.reduceAdd, Nat.reduceMul, Nat.reduceSub, Nat.reduceLeDiff, Nat.reduceLT, Nat.reduceBEq, Nat.reducePow, Int.reduceEq, Int.reduceLT, Int.reduceLE, Int.reduceNeg, Int.reduceAdd, Int.reduceToNat, reduceIte, decide_true, decide_false, k1, k2]; (try simp (disch := omega) only [wrap64, wrap8]); (first | (refine hK1 _ ?_) | (refine ⟨by omega, hK1 _ ?_⟩) | (refine ⟨⟨by omega, by omega⟩, hK1 _ ?_⟩) | (refine ⟨⟨by omega, by omega, by omega⟩, hK1 _ ?_⟩)); clear hK1 K1)); refine aops_nil ?_) | (refine acode_region (by rw [hF]; kernel_rfl) ?_; (repeat (refine aops_step fun K1 hK1 => ?_; simp only [push_cast, Nat.reduceEqDiff, reduceCtorEq, Nat.reduceAdd, Nat.reduceMul, Nat.reduceSub, Nat.reduceLeDiff, Nat.reduceLT, Nat.reduceBEq, Nat.reducePow, Int.reduceEq, Int.reduceLT, Int.reduceLE, Int.reduceNeg, Int.reduceAdd, Int.reduceToNat, reduceIte, decide_true, decide_false, k1, k2]; (try simp (disch := omega) only [wrap64, wrap8]); (first | (refine hK1 _ ?_) | (refine ⟨by omega, hK1 _ ?_⟩) | (refine ⟨⟨by omega, by omega⟩, hK1 _ ?_⟩) | (refine ⟨⟨by omega, by omega, by omega⟩, hK1 _ ?_⟩)); clear hK1 K1)); refine aops_nil ?_) | (refine acode_seq ?_) | (refine acode_block ?_) | (refine acode_skip ?_) | (refine acode_exit ?_) | (refine acode_ret ?_) | (refine andThen_normal ?_) | (refine andThen_exit ?_) | (refine andThen_ret ?_) | (refine inBlock_normal ?_) | (refine inBlock_ret ?_) | (refine inBlock_same ?_) | (refine inBlock_other rfl ?_))
  refine acode_false (by simp only [push_cast, Nat.reduceEqDiff, reduceCtorEq, Nat.reduceAdd, Nat.reduceMul, Nat.reduceSub, Nat.reduceLeDiff, Nat.reduceLT, Nat.reduceBEq, Nat.reducePow, Int.reduceEq, Int.reduceLT, Int.reduceLE, Int.reduceNeg, Int.reduceAdd, Int.reduceToNat, reduceIte, decide_true, decide_false]) ?_
  repeat (first | (refine acode_region_seq (by rw [hF]; kernel_rfl) ?_; (repeat (refine aops_step fun K1 hK1 => ?_; simp only [push_cast, Nat.reduceEqDiff, reduceCtorEq, Nat.reduceAdd, Nat.reduceMul, Nat.reduceSub, Nat.reduceLeDiff, Nat.reduceLT, Nat.reduceBEq, Nat.reducePow, Int.reduceEq, Int.reduceLT, Int.reduceLE, Int.reduceNeg, Int.reduceAdd, Int.reduceToNat, reduceIte, decide_true, decide_false]; (try simp (disch := omega) only [wrap64, wrap8]); (first | (refine hK1 _ ?_) | (refine ⟨by omega, hK1 _ ?_⟩) | (refine ⟨⟨by omega, by omega⟩, hK1 _ ?_⟩) | (refine ⟨⟨by omega, by omega, by omega⟩, hK1 _ ?_⟩)); clear hK1 K1)); refine aops_nil ?_) | (refine acode_region (by rw [hF]; kernel_rfl) ?_; (repeat (refine aops_step fun K1 hK1 => ?_; simp only [push_cast, Nat.reduceEqDiff, reduceCtorEq, Nat.reduceAdd, Nat.reduceMul, Nat.reduceSub, Nat.reduceLeDiff, Nat.reduceLT, Nat.reduceBEq, Nat.reducePow, Int.reduceEq, Int.reduceLT, Int.reduceLE, Int.reduceNeg, Int.reduceAdd, Int.reduceToNat, reduceIte, decide_true, decide_false]; (try simp (disch := omega) only [wrap64, wrap8]); (first | (refine hK1 _ ?_) | (refine ⟨by omega, hK1 _ ?_⟩) | (refine ⟨⟨by omega, by omega⟩, hK1 _ ?_⟩) | (refine ⟨⟨by omega, by omega, by omega⟩, hK1 _ ?_⟩)); clear hK1 K1)); refine aops_nil ?_) | (refine acode_seq ?_) | (refine acode_block ?_) | (refine acode_skip ?_) | (refine acode_exit ?_) | (refine acode_ret ?_) | (refine andThen_normal ?_) | (refine andThen_exit ?_) | (refine andThen_ret ?_) | (refine inBlock_normal ?_) | (refine inBlock_ret ?_) | (refine inBlock_same ?_) | (refine inBlock_other rfl ?_))
  have C0 : PCalls Try.prog F.G 46 [valD (.string ⟨#[]⟩)] (valD (.string DM.zeroS)) := rfill_pc F.gst ⟨#[]⟩ (by decide)
  refine acode_loop (fun m σ => ∃ k : Nat, k ≤ n ∧ m = n - k ∧ σ = nwS n k) n (nwS n 0) ⟨0, Nat.zero_le _, rfl, rfl⟩ (by rw [nwS_zero]; (refine Le.of ?_ ?_ ?_ <;> simp only [List.not_mem_nil, false_implies, implies_true, and_true, true_and, push_cast, Nat.reduceEqDiff, reduceCtorEq, Nat.reduceAdd, Nat.reduceMul, Nat.reduceSub, Nat.reduceLeDiff, Nat.reduceLT, Nat.reduceBEq, Nat.reducePow, Int.reduceEq, Int.reduceLT, Int.reduceLE, Int.reduceNeg, Int.reduceAdd, Int.reduceToNat, reduceIte, decide_true, decide_false])) ?_
  rintro m σ ⟨k, hk, rfl, rfl⟩
  cases k with
  | zero =>
    rw [nwS_zero]
    have hkn : (0 : Int) < (n : Int) := by omega
    repeat (first | (refine acode_region_seq (by rw [hF]; kernel_rfl) ?_; (repeat (refine aops_step fun K1 hK1 => ?_; simp only [push_cast, Nat.reduceEqDiff, reduceCtorEq, Nat.reduceAdd, Nat.reduceMul, Nat.reduceSub, Nat.reduceLeDiff, Nat.reduceLT, Nat.reduceBEq, Nat.reducePow, Int.reduceEq, Int.reduceLT, Int.reduceLE, Int.reduceNeg, Int.reduceAdd, Int.reduceToNat, reduceIte, decide_true, decide_false, hkn]; (try simp (disch := omega) only [wrap64, wrap8]); (first | (refine hK1 _ ?_) | (refine ⟨by omega, hK1 _ ?_⟩) | (refine ⟨⟨by omega, by omega⟩, hK1 _ ?_⟩) | (refine ⟨⟨by omega, by omega, by omega⟩, hK1 _ ?_⟩)); clear hK1 K1)); refine aops_nil ?_) | (refine acode_region (by rw [hF]; kernel_rfl) ?_; (repeat (refine aops_step fun K1 hK1 => ?_; simp only [push_cast, Nat.reduceEqDiff, reduceCtorEq, Nat.reduceAdd, Nat.reduceMul, Nat.reduceSub, Nat.reduceLeDiff, Nat.reduceLT, Nat.reduceBEq, Nat.reducePow, Int.reduceEq, Int.reduceLT, Int.reduceLE, Int.reduceNeg, Int.reduceAdd, Int.reduceToNat, reduceIte, decide_true, decide_false, hkn]; (try simp (disch := omega) only [wrap64, wrap8]); (first | (refine hK1 _ ?_) | (refine ⟨by omega, hK1 _ ?_⟩) | (refine ⟨⟨by omega, by omega⟩, hK1 _ ?_⟩) | (refine ⟨⟨by omega, by omega, by omega⟩, hK1 _ ?_⟩)); clear hK1 K1)); refine aops_nil ?_) | (refine acode_seq ?_) | (refine acode_block ?_) | (refine acode_skip ?_) | (refine acode_exit ?_) | (refine acode_ret ?_) | (refine andThen_normal ?_) | (refine andThen_exit ?_) | (refine andThen_ret ?_) | (refine inBlock_normal ?_) | (refine inBlock_ret ?_) | (refine inBlock_same ?_) | (refine inBlock_other rfl ?_))
    refine acode_true (by simp only [push_cast, Nat.reduceEqDiff, reduceCtorEq, Nat.reduceAdd, Nat.reduceMul, Nat.reduceSub, Nat.reduceLeDiff, Nat.reduceLT, Nat.reduceBEq, Nat.reducePow, Int.reduceEq, Int.reduceLT, Int.reduceLE, Int.reduceNeg, Int.reduceAdd, Int.reduceToNat, reduceIte, decide_true, decide_false]) ?_
    repeat (first | (refine acode_region_seq (by rw [hF]; kernel_rfl) ?_; (repeat (refine aops_step fun K1 hK1 => ?_; simp only [push_cast, Nat.reduceEqDiff, reduceCtorEq, Nat.reduceAdd, Nat.reduceMul, Nat.reduceSub, Nat.reduceLeDiff, Nat.reduceLT, Nat.reduceBEq, Nat.reducePow, Int.reduceEq, Int.reduceLT, Int.reduceLE, Int.reduceNeg, Int.reduceAdd, Int.reduceToNat, reduceIte, decide_true, decide_false]; (try simp (disch := omega) only [wrap64, wrap8]); (first | (refine hK1 _ ?_) | (refine ⟨by omega, hK1 _ ?_⟩) | (refine ⟨⟨by omega, by omega⟩, hK1 _ ?_⟩) | (refine ⟨⟨by omega, by omega, by omega⟩, hK1 _ ?_⟩)); clear hK1 K1)); refine aops_nil ?_) | (refine acode_region (by rw [hF]; kernel_rfl) ?_; (repeat (refine aops_step fun K1 hK1 => ?_; simp only [push_cast, Nat.reduceEqDiff, reduceCtorEq, Nat.reduceAdd, Nat.reduceMul, Nat.reduceSub, Nat.reduceLeDiff, Nat.reduceLT, Nat.reduceBEq, Nat.reducePow, Int.reduceEq, Int.reduceLT, Int.reduceLE, Int.reduceNeg, Int.reduceAdd, Int.reduceToNat, reduceIte, decide_true, decide_false]; (try simp (disch := omega) only [wrap64, wrap8]); (first | (refine hK1 _ ?_) | (refine ⟨by omega, hK1 _ ?_⟩) | (refine ⟨⟨by omega, by omega⟩, hK1 _ ?_⟩) | (refine ⟨⟨by omega, by omega, by omega⟩, hK1 _ ?_⟩)); clear hK1 K1)); refine aops_nil ?_) | (refine acode_seq ?_) | (refine acode_block ?_) | (refine acode_skip ?_) | (refine acode_exit ?_) | (refine acode_ret ?_) | (refine andThen_normal ?_) | (refine andThen_exit ?_) | (refine andThen_ret ?_) | (refine inBlock_normal ?_) | (refine inBlock_ret ?_) | (refine inBlock_same ?_) | (refine inBlock_other rfl ?_))
    (first | (refine acode_region_seq (by rw [hF]; kernel_rfl) ?_) | (refine acode_region (by rw [hF]; kernel_rfl) ?_)); (repeat (refine aops_step fun K1 hK1 => ?_; simp only [push_cast, Nat.reduceEqDiff, reduceCtorEq, Nat.reduceAdd, Nat.reduceMul, Nat.reduceSub, Nat.reduceLeDiff, Nat.reduceLT, Nat.reduceBEq, Nat.reducePow, Int.reduceEq, Int.reduceLT, Int.reduceLE, Int.reduceNeg, Int.reduceAdd, Int.reduceToNat, reduceIte, decide_true, decide_false]; (try simp (disch := omega) only [wrap64, wrap8]); (first | (refine hK1 _ ?_) | (refine ⟨by omega, hK1 _ ?_⟩) | (refine ⟨⟨by omega, by omega⟩, hK1 _ ?_⟩) | (refine ⟨⟨by omega, by omega, by omega⟩, hK1 _ ?_⟩)); clear hK1 K1))
    refine aops_call (by simp only [push_cast, Nat.reduceEqDiff, reduceCtorEq, Nat.reduceAdd, Nat.reduceMul, Nat.reduceSub, Nat.reduceLeDiff, Nat.reduceLT, Nat.reduceBEq, Nat.reducePow, Int.reduceEq, Int.reduceLT, Int.reduceLE, Int.reduceNeg, Int.reduceAdd, Int.reduceToNat, reduceIte, decide_true, decide_false]) rfl (by simp only [push_cast, Nat.reduceEqDiff, reduceCtorEq, Nat.reduceAdd, Nat.reduceMul, Nat.reduceSub, Nat.reduceLeDiff, Nat.reduceLT, Nat.reduceBEq, Nat.reducePow, Int.reduceEq, Int.reduceLT, Int.reduceLE, Int.reduceNeg, Int.reduceAdd, Int.reduceToNat, reduceIte, decide_true, decide_false]) (by kernel_rfl) (by simp only [push_cast, Nat.reduceEqDiff, reduceCtorEq, Nat.reduceAdd, Nat.reduceMul, Nat.reduceSub, Nat.reduceLeDiff, Nat.reduceLT, Nat.reduceBEq, Nat.reducePow, Int.reduceEq, Int.reduceLT, Int.reduceLE, Int.reduceNeg, Int.reduceAdd, Int.reduceToNat, reduceIte, decide_true, decide_false]) (C0) ?_
    (repeat (refine aops_step fun K1 hK1 => ?_; simp only [push_cast, Nat.reduceEqDiff, reduceCtorEq, Nat.reduceAdd, Nat.reduceMul, Nat.reduceSub, Nat.reduceLeDiff, Nat.reduceLT, Nat.reduceBEq, Nat.reducePow, Int.reduceEq, Int.reduceLT, Int.reduceLE, Int.reduceNeg, Int.reduceAdd, Int.reduceToNat, reduceIte, decide_true, decide_false]; (try simp (disch := omega) only [wrap64, wrap8]); (first | (refine hK1 _ ?_) | (refine ⟨by omega, hK1 _ ?_⟩) | (refine ⟨⟨by omega, by omega⟩, hK1 _ ?_⟩) | (refine ⟨⟨by omega, by omega, by omega⟩, hK1 _ ?_⟩)); clear hK1 K1)); refine aops_nil ?_
    repeat (first | (refine acode_region_seq (by rw [hF]; kernel_rfl) ?_; (repeat (refine aops_step fun K1 hK1 => ?_; simp only [push_cast, Nat.reduceEqDiff, reduceCtorEq, Nat.reduceAdd, Nat.reduceMul, Nat.reduceSub, Nat.reduceLeDiff, Nat.reduceLT, Nat.reduceBEq, Nat.reducePow, Int.reduceEq, Int.reduceLT, Int.reduceLE, Int.reduceNeg, Int.reduceAdd, Int.reduceToNat, reduceIte, decide_true, decide_false]; (try simp (disch := omega) only [wrap64, wrap8]); (first | (refine hK1 _ ?_) | (refine ⟨by omega, hK1 _ ?_⟩) | (refine ⟨⟨by omega, by omega⟩, hK1 _ ?_⟩) | (refine ⟨⟨by omega, by omega, by omega⟩, hK1 _ ?_⟩)); clear hK1 K1)); refine aops_nil ?_) | (refine acode_region (by rw [hF]; kernel_rfl) ?_; (repeat (refine aops_step fun K1 hK1 => ?_; simp only [push_cast, Nat.reduceEqDiff, reduceCtorEq, Nat.reduceAdd, Nat.reduceMul, Nat.reduceSub, Nat.reduceLeDiff, Nat.reduceLT, Nat.reduceBEq, Nat.reducePow, Int.reduceEq, Int.reduceLT, Int.reduceLE, Int.reduceNeg, Int.reduceAdd, Int.reduceToNat, reduceIte, decide_true, decide_false]; (try simp (disch := omega) only [wrap64, wrap8]); (first | (refine hK1 _ ?_) | (refine ⟨by omega, hK1 _ ?_⟩) | (refine ⟨⟨by omega, by omega⟩, hK1 _ ?_⟩) | (refine ⟨⟨by omega, by omega, by omega⟩, hK1 _ ?_⟩)); clear hK1 K1)); refine aops_nil ?_) | (refine acode_seq ?_) | (refine acode_block ?_) | (refine acode_skip ?_) | (refine acode_exit ?_) | (refine acode_ret ?_) | (refine andThen_normal ?_) | (refine andThen_exit ?_) | (refine andThen_ret ?_) | (refine inBlock_normal ?_) | (refine inBlock_ret ?_) | (refine inBlock_same ?_) | (refine inBlock_other rfl ?_))
    refine ⟨_, _, ?_, ⟨0 + 1, by omega, rfl, rfl⟩, ?_⟩
    · omega
    · rw [nwS_succ]
      (refine Le.of ?_ ?_ ?_ <;> simp only [List.not_mem_nil, false_implies, implies_true, and_true, true_and, push_cast, Nat.reduceEqDiff, reduceCtorEq, Nat.reduceAdd, Nat.reduceMul, Nat.reduceSub, Nat.reduceLeDiff, Nat.reduceLT, Nat.reduceBEq, Nat.reducePow, Int.reduceEq, Int.reduceLT, Int.reduceLE, Int.reduceNeg, Int.reduceAdd, Int.reduceToNat, reduceIte, decide_true, decide_false, exists_eq_left', Nat.le_refl, Row.mk.injEq])
      all_goals first | exact ⟨_, rfl⟩ | rfl
  | succ k =>
    rw [nwS_succ]
    have hl : (List.replicate (k + 1) DM.zeroS).length = k + 1 := List.length_replicate ..
    by_cases hkn : (k : Int) + 1 < (n : Int)
    · repeat (first | (refine acode_region_seq (by rw [hF]; kernel_rfl) ?_; (repeat (refine aops_step fun K1 hK1 => ?_; simp only [push_cast, Nat.reduceEqDiff, reduceCtorEq, Nat.reduceAdd, Nat.reduceMul, Nat.reduceSub, Nat.reduceLeDiff, Nat.reduceLT, Nat.reduceBEq, Nat.reducePow, Int.reduceEq, Int.reduceLT, Int.reduceLE, Int.reduceNeg, Int.reduceAdd, Int.reduceToNat, reduceIte, decide_true, decide_false, hkn]; (try simp (disch := omega) only [wrap64, wrap8]); (first | (refine hK1 _ ?_) | (refine ⟨by omega, hK1 _ ?_⟩) | (refine ⟨⟨by omega, by omega⟩, hK1 _ ?_⟩) | (refine ⟨⟨by omega, by omega, by omega⟩, hK1 _ ?_⟩)); clear hK1 K1)); refine aops_nil ?_) | (refine acode_region (by rw [hF]; kernel_rfl) ?_; (repeat (refine aops_step fun K1 hK1 => ?_; simp only [push_cast, Nat.reduceEqDiff, reduceCtorEq, Nat.reduceAdd, Nat.reduceMul, Nat.reduceSub, Nat.reduceLeDiff, Nat.reduceLT, Nat.reduceBEq, Nat.reducePow, Int.reduceEq, Int.reduceLT, Int.reduceLE, Int.reduceNeg, Int.reduceAdd, Int.reduceToNat, reduceIte, decide_true, decide_false, hkn]; (try simp (disch := omega) only [wrap64, wrap8]); (first | (refine hK1 _ ?_) | (refine ⟨by omega, hK1 _ ?_⟩) | (refine ⟨⟨by omega, by omega⟩, hK1 _ ?_⟩) | (refine ⟨⟨by omega, by omega, by omega⟩, hK1 _ ?_⟩)); clear hK1 K1)); refine aops_nil ?_) | (refine acode_seq ?_) | (refine acode_block ?_) | (refine acode_skip ?_) | (refine acode_exit ?_) | (refine acode_ret ?_) | (refine andThen_normal ?_) | (refine andThen_exit ?_) | (refine andThen_ret ?_) | (refine inBlock_normal ?_) | (refine inBlock_ret ?_) | (refine inBlock_same ?_) | (refine inBlock_other rfl ?_))
      refine acode_true (by simp only [push_cast, Nat.reduceEqDiff, reduceCtorEq, Nat.reduceAdd, Nat.reduceMul, Nat.reduceSub, Nat.reduceLeDiff, Nat.reduceLT, Nat.reduceBEq, Nat.reducePow, Int.reduceEq, Int.reduceLT, Int.reduceLE, Int.reduceNeg, Int.reduceAdd, Int.reduceToNat, reduceIte, decide_true, decide_false]) ?_
      repeat (first | (refine acode_region_seq (by rw [hF]; kernel_rfl) ?_; (repeat (refine aops_step fun K1 hK1 => ?_; simp only [push_cast, Nat.reduceEqDiff, reduceCtorEq, Nat.reduceAdd, Nat.reduceMul, Nat.reduceSub, Nat.reduceLeDiff, Nat.reduceLT, Nat.reduceBEq, Nat.reducePow, Int.reduceEq, Int.reduceLT, Int.reduceLE, Int.reduceNeg, Int.reduceAdd, Int.reduceToNat, reduceIte, decide_true, decide_false]; (try simp (disch := omega) only [wrap64, wrap8]); (first | (refine hK1 _ ?_) | (refine ⟨by omega, hK1 _ ?_⟩) | (refine ⟨⟨by omega, by omega⟩, hK1 _ ?_⟩) | (refine ⟨⟨by omega, by omega, by omega⟩, hK1 _ ?_⟩)); clear hK1 K1)); refine aops_nil ?_) | (refine acode_region (by rw [hF]; kernel_rfl) ?_; (repeat (refine aops_step fun K1 hK1 => ?_; simp only [push_cast, Nat.reduceEqDiff, reduceCtorEq, Nat.reduceAdd, Nat.reduceMul, Nat.reduceSub, Nat.reduceLeDiff, Nat.reduceLT, Nat.reduceBEq, Nat.reducePow, Int.reduceEq, Int.reduceLT, Int.reduceLE, Int.reduceNeg, Int.reduceAdd, Int.reduceToNat, reduceIte, decide_true, decide_false]; (try simp (disch := omega) only [wrap64, wrap8]); (first | (refine hK1 _ ?_) | (refine ⟨by omega, hK1 _ ?_⟩) | (refine ⟨⟨by omega, by omega⟩, hK1 _ ?_⟩) | (refine ⟨⟨by omega, by omega, by omega⟩, hK1 _ ?_⟩)); clear hK1 K1)); refine aops_nil ?_) | (refine acode_seq ?_) | (refine acode_block ?_) | (refine acode_skip ?_) | (refine acode_exit ?_) | (refine acode_ret ?_) | (refine andThen_normal ?_) | (refine andThen_exit ?_) | (refine andThen_ret ?_) | (refine inBlock_normal ?_) | (refine inBlock_ret ?_) | (refine inBlock_same ?_) | (refine inBlock_other rfl ?_))
      (first | (refine acode_region_seq (by rw [hF]; kernel_rfl) ?_) | (refine acode_region (by rw [hF]; kernel_rfl) ?_)); (repeat (refine aops_step fun K1 hK1 => ?_; simp only [push_cast, Nat.reduceEqDiff, reduceCtorEq, Nat.reduceAdd, Nat.reduceMul, Nat.reduceSub, Nat.reduceLeDiff, Nat.reduceLT, Nat.reduceBEq, Nat.reducePow, Int.reduceEq, Int.reduceLT, Int.reduceLE, Int.reduceNeg, Int.reduceAdd, Int.reduceToNat, reduceIte, decide_true, decide_false]; (try simp (disch := omega) only [wrap64, wrap8]); (first | (refine hK1 _ ?_) | (refine ⟨by omega, hK1 _ ?_⟩) | (refine ⟨⟨by omega, by omega⟩, hK1 _ ?_⟩) | (refine ⟨⟨by omega, by omega, by omega⟩, hK1 _ ?_⟩)); clear hK1 K1))
      refine aops_call (by simp only [push_cast, Nat.reduceEqDiff, reduceCtorEq, Nat.reduceAdd, Nat.reduceMul, Nat.reduceSub, Nat.reduceLeDiff, Nat.reduceLT, Nat.reduceBEq, Nat.reducePow, Int.reduceEq, Int.reduceLT, Int.reduceLE, Int.reduceNeg, Int.reduceAdd, Int.reduceToNat, reduceIte, decide_true, decide_false]) rfl (by simp only [push_cast, Nat.reduceEqDiff, reduceCtorEq, Nat.reduceAdd, Nat.reduceMul, Nat.reduceSub, Nat.reduceLeDiff, Nat.reduceLT, Nat.reduceBEq, Nat.reducePow, Int.reduceEq, Int.reduceLT, Int.reduceLE, Int.reduceNeg, Int.reduceAdd, Int.reduceToNat, reduceIte, decide_true, decide_false]) (by kernel_rfl) (by simp only [push_cast, Nat.reduceEqDiff, reduceCtorEq, Nat.reduceAdd, Nat.reduceMul, Nat.reduceSub, Nat.reduceLeDiff, Nat.reduceLT, Nat.reduceBEq, Nat.reducePow, Int.reduceEq, Int.reduceLT, Int.reduceLE, Int.reduceNeg, Int.reduceAdd, Int.reduceToNat, reduceIte, decide_true, decide_false]) (C0) ?_
      (repeat (refine aops_step fun K1 hK1 => ?_; simp only [push_cast, Nat.reduceEqDiff, reduceCtorEq, Nat.reduceAdd, Nat.reduceMul, Nat.reduceSub, Nat.reduceLeDiff, Nat.reduceLT, Nat.reduceBEq, Nat.reducePow, Int.reduceEq, Int.reduceLT, Int.reduceLE, Int.reduceNeg, Int.reduceAdd, Int.reduceToNat, reduceIte, decide_true, decide_false, hl]; (try simp (disch := omega) only [wrap64, wrap8]); (first | (refine hK1 _ ?_) | (refine ⟨by omega, hK1 _ ?_⟩) | (refine ⟨⟨by omega, by omega⟩, hK1 _ ?_⟩) | (refine ⟨⟨by omega, by omega, by omega⟩, hK1 _ ?_⟩)); clear hK1 K1)); refine aops_nil ?_
      repeat (first | (refine acode_region_seq (by rw [hF]; kernel_rfl) ?_; (repeat (refine aops_step fun K1 hK1 => ?_; simp only [push_cast, Nat.reduceEqDiff, reduceCtorEq, Nat.reduceAdd, Nat.reduceMul, Nat.reduceSub, Nat.reduceLeDiff, Nat.reduceLT, Nat.reduceBEq, Nat.reducePow, Int.reduceEq, Int.reduceLT, Int.reduceLE, Int.reduceNeg, Int.reduceAdd, Int.reduceToNat, reduceIte, decide_true, decide_false]; (try simp (disch := omega) only [wrap64, wrap8]); (first | (refine hK1 _ ?_) | (refine ⟨by omega, hK1 _ ?_⟩) | (refine ⟨⟨by omega, by omega⟩, hK1 _ ?_⟩) | (refine ⟨⟨by omega, by omega, by omega⟩, hK1 _ ?_⟩)); clear hK1 K1)); refine aops_nil ?_) | (refine acode_region (by rw [hF]; kernel_rfl) ?_; (repeat (refine aops_step fun K1 hK1 => ?_; simp only [push_cast, Nat.reduceEqDiff, reduceCtorEq, Nat.reduceAdd, Nat.reduceMul, Nat.reduceSub, Nat.reduceLeDiff, Nat.reduceLT, Nat.reduceBEq, Nat.reducePow, Int.reduceEq, Int.reduceLT, Int.reduceLE, Int.reduceNeg, Int.reduceAdd, Int.reduceToNat, reduceIte, decide_true, decide_false]; (try simp (disch := omega) only [wrap64, wrap8]); (first | (refine hK1 _ ?_) | (refine ⟨by omega, hK1 _ ?_⟩) | (refine ⟨⟨by omega, by omega⟩, hK1 _ ?_⟩) | (refine ⟨⟨by omega, by omega, by omega⟩, hK1 _ ?_⟩)); clear hK1 K1)); refine aops_nil ?_) | (refine acode_seq ?_) | (refine acode_block ?_) | (refine acode_skip ?_) | (refine acode_exit ?_) | (refine acode_ret ?_) | (refine andThen_normal ?_) | (refine andThen_exit ?_) | (refine andThen_ret ?_) | (refine inBlock_normal ?_) | (refine inBlock_ret ?_) | (refine inBlock_same ?_) | (refine inBlock_other rfl ?_))
      refine ⟨_, _, ?_, ⟨k + 1 + 1, by omega, rfl, rfl⟩, ?_⟩
      · omega
      · rw [nwS_succ]
        (refine Le.of ?_ ?_ ?_ <;> simp only [List.not_mem_nil, false_implies, implies_true, and_true, true_and, push_cast, Nat.reduceEqDiff, reduceCtorEq, Nat.reduceAdd, Nat.reduceMul, Nat.reduceSub, Nat.reduceLeDiff, Nat.reduceLT, Nat.reduceBEq, Nat.reducePow, Int.reduceEq, Int.reduceLT, Int.reduceLE, Int.reduceNeg, Int.reduceAdd, Int.reduceToNat, reduceIte, decide_true, decide_false, exists_eq_left', Nat.le_refl, Row.mk.injEq])
        all_goals first | exact ⟨_, rfl⟩ | exact secD_snoc _
    · obtain rfl : k + 1 = n := by omega
      refine acode_frz ?_
      repeat (first | (refine acode_region_seq (by rw [hF]; kernel_rfl) ?_; (repeat (refine aops_step fun K1 hK1 => ?_; simp only [push_cast, Nat.reduceEqDiff, reduceCtorEq, Nat.reduceAdd, Nat.reduceMul, Nat.reduceSub, Nat.reduceLeDiff, Nat.reduceLT, Nat.reduceBEq, Nat.reducePow, Int.reduceEq, Int.reduceLT, Int.reduceLE, Int.reduceNeg, Int.reduceAdd, Int.reduceToNat, reduceIte, decide_true, decide_false, Int.lt_irrefl]; (try simp (disch := omega) only [wrap64, wrap8]); (first | (refine hK1 _ ?_) | (refine ⟨by omega, hK1 _ ?_⟩) | (refine ⟨⟨by omega, by omega⟩, hK1 _ ?_⟩) | (refine ⟨⟨by omega, by omega, by omega⟩, hK1 _ ?_⟩)); clear hK1 K1)); refine aops_nil ?_) | (refine acode_region (by rw [hF]; kernel_rfl) ?_; (repeat (refine aops_step fun K1 hK1 => ?_; simp only [push_cast, Nat.reduceEqDiff, reduceCtorEq, Nat.reduceAdd, Nat.reduceMul, Nat.reduceSub, Nat.reduceLeDiff, Nat.reduceLT, Nat.reduceBEq, Nat.reducePow, Int.reduceEq, Int.reduceLT, Int.reduceLE, Int.reduceNeg, Int.reduceAdd, Int.reduceToNat, reduceIte, decide_true, decide_false, Int.lt_irrefl]; (try simp (disch := omega) only [wrap64, wrap8]); (first | (refine hK1 _ ?_) | (refine ⟨by omega, hK1 _ ?_⟩) | (refine ⟨⟨by omega, by omega⟩, hK1 _ ?_⟩) | (refine ⟨⟨by omega, by omega, by omega⟩, hK1 _ ?_⟩)); clear hK1 K1)); refine aops_nil ?_) | (refine acode_seq ?_) | (refine acode_block ?_) | (refine acode_skip ?_) | (refine acode_exit ?_) | (refine acode_ret ?_) | (refine andThen_normal ?_) | (refine andThen_exit ?_) | (refine andThen_ret ?_) | (refine inBlock_normal ?_) | (refine inBlock_ret ?_) | (refine inBlock_same ?_) | (refine inBlock_other rfl ?_))
      refine acode_false (by simp only [push_cast, Nat.reduceEqDiff, reduceCtorEq, Nat.reduceAdd, Nat.reduceMul, Nat.reduceSub, Nat.reduceLeDiff, Nat.reduceLT, Nat.reduceBEq, Nat.reducePow, Int.reduceEq, Int.reduceLT, Int.reduceLE, Int.reduceNeg, Int.reduceAdd, Int.reduceToNat, reduceIte, decide_true, decide_false]) ?_
      repeat (first | (refine acode_region_seq (by rw [hF]; kernel_rfl) ?_; (repeat (refine aops_step fun K1 hK1 => ?_; simp only [push_cast, Nat.reduceEqDiff, reduceCtorEq, Nat.reduceAdd, Nat.reduceMul, Nat.reduceSub, Nat.reduceLeDiff, Nat.reduceLT, Nat.reduceBEq, Nat.reducePow, Int.reduceEq, Int.reduceLT, Int.reduceLE, Int.reduceNeg, Int.reduceAdd, Int.reduceToNat, reduceIte, decide_true, decide_false]; (try simp (disch := omega) only [wrap64, wrap8]); (first | (refine hK1 _ ?_) | (refine ⟨by omega, hK1 _ ?_⟩) | (refine ⟨⟨by omega, by omega⟩, hK1 _ ?_⟩) | (refine ⟨⟨by omega, by omega, by omega⟩, hK1 _ ?_⟩)); clear hK1 K1)); refine aops_nil ?_) | (refine acode_region (by rw [hF]; kernel_rfl) ?_; (repeat (refine aops_step fun K1 hK1 => ?_; simp only [push_cast, Nat.reduceEqDiff, reduceCtorEq, Nat.reduceAdd, Nat.reduceMul, Nat.reduceSub, Nat.reduceLeDiff, Nat.reduceLT, Nat.reduceBEq, Nat.reducePow, Int.reduceEq, Int.reduceLT, Int.reduceLE, Int.reduceNeg, Int.reduceAdd, Int.reduceToNat, reduceIte, decide_true, decide_false]; (try simp (disch := omega) only [wrap64, wrap8]); (first | (refine hK1 _ ?_) | (refine ⟨by omega, hK1 _ ?_⟩) | (refine ⟨⟨by omega, by omega⟩, hK1 _ ?_⟩) | (refine ⟨⟨by omega, by omega, by omega⟩, hK1 _ ?_⟩)); clear hK1 K1)); refine aops_nil ?_) | (refine acode_seq ?_) | (refine acode_block ?_) | (refine acode_skip ?_) | (refine acode_exit ?_) | (refine acode_ret ?_) | (refine andThen_normal ?_) | (refine andThen_exit ?_) | (refine andThen_ret ?_) | (refine inBlock_normal ?_) | (refine inBlock_ret ?_) | (refine inBlock_same ?_) | (refine inBlock_other rfl ?_))
      refine (hQ _ ?_).2
      simp only [push_cast, Nat.reduceEqDiff, reduceCtorEq, Nat.reduceAdd, Nat.reduceMul, Nat.reduceSub, Nat.reduceLeDiff, Nat.reduceLT, Nat.reduceBEq, Nat.reducePow, Int.reduceEq, Int.reduceLT, Int.reduceLE, Int.reduceNeg, Int.reduceAdd, Int.reduceToNat, reduceIte, decide_true, decide_false, frz]
theorem rnew_pc {G : World → Prop} (hG : Stab G) (n : Int) : PCalls Try.prog G 19 [valD (.int .i64 n)] (okD (DM.newD n) (decide (DM.newOk n))) := by
  by_cases h : DM.newOk n
  · obtain ⟨m, rfl⟩ : ∃ m : Nat, n = (m : Int) := ⟨n.toNat, by have := h.1; omega⟩
    have e : DM.newD (m : Int) = ⟨List.replicate m DM.zeroS, []⟩ := by rw [DM.newD, if_pos h]; rfl
    rw [decide_eq_true h, e]
    exact (rnew_yes hG m (by have := h.1; omega) (by have := h.2; omega)).weak fun _ _ _ h => new_out1 h
  · rw [decide_eq_false h, DM.newD, if_neg h]
    exact (rnew_no hG n h).weak fun _ _ _ h => new_out0 h
end Go.Proofs.Ytabmdijfholakaa.AM

/- Put, Flush, Crash: the lists that come out lie in new blocks. -/
namespace Go.Proofs.Ytabmdijfholakaa
open Go.RowKit
set_option linter.unusedVariables false
namespace DiskW
set_option maxHeartbeats 1600000 in
set_option maxRecDepth 100000 in
theorem put_own (a1 a2 : Option Addr) (k1 k2 n m : Nat) (d : DM.Dk) (i : Int) (s : ByteArray) (w : World) (h : DM.DV w (.slice a1 n k1) (.slice a2 m k2) d) (hn : d.secs.length = n) (hm : d.cache.length = m) (b1 : n ≤ 1000000) (b2 : m ≤ 1000000) (hs : s.size ≤ maxLen) :
    Calls Try.prog 21 #[.agg #[.slice a1 n k1, .slice a2 m k2], .int .i64 i, .string s] w fun e w' => ∃ a3 n3 k3 a4 n4 k4, e = .returned (.tuple #[.agg #[.slice a3 n3 k3, .slice a4 n4 k4], .int .i64 (DM.putE d i s)]) ∧
      DM.DV w' (.slice a3 n3 k3) (.slice a4 n4 k4) (DM.putD d i s) ∧ Below w.heap.size w w' ∧ (∀ k, DM.own2 (.slice a3 n3 k3) (.slice a4 n4 k4) k → w.heap.size ≤ k) ∧ (n3 ≤ k3 ∧ k3 ≤ maxLen ∧ n4 ≤ k4 ∧ k4 ≤ maxLen) := by
  have C1 : Hid (∀ w', DM.DV w' (.slice a1 n k1) (.slice a2 m k2) d → Calls Try.prog 36 #[.agg #[.slice a1 n k1, .slice a2 m k2]] w' fun e w'' => ∃ a1 k1 a2 k2, e = .returned (.agg #[.slice a1 n k1, .slice a2 m k2]) ∧ DM.OD w'' w'.heap.size 9 62 (.slice a1 n k1) (.slice a2 m k2) d ∧ Below w'.heap.size w' w'') := Lib.hid (fun w' h => by
    have := clone_any _ _ d w' h (by omega) (by omega)
    rw [hn, hm] at this
    exact this)
  obtain ⟨x, hx⟩ : ∃ x, decide (DM.mayD d) = x := ⟨_, rfl⟩
  have C2 : Hid (∀ w', DM.DV w' (.slice a1 n k1) (.slice a2 m k2) d → Calls Try.prog 37 #[.agg #[.slice a1 n k1, .slice a2 m k2]] w' fun e w'' => e = .returned (.bool x) ∧ Below w'.heap.size w' w'') := Lib.hid (fun w' h => by
    have := may_any _ _ d w' h (by omega) (by omega)
    rw [hx] at this
    exact this)
  have C3 : Hid (DM.writeE n i s ≠ 0 → ∀ a1 k1 a2 k2 w', Calls Try.prog 39 #[.agg #[.slice a1 n k1, .slice a2 m k2], .int .i64 i, .string s] w' fun e w'' => e = .returned (.tuple #[.agg #[.slice a1 n k1, .slice a2 m k2], .int .i64 (DM.writeE n i s)]) ∧ Below w'.heap.size w' w'') := Lib.hid (fun he a1 k1 a2 k2 w' => write_no a1 a2 n k1 m k2 i s w' (by omega) hs he)
  have C4 : Hid (DM.writeE n i s = 0 → ∀ base a1 k1 a2 k2 w', DM.OD w' base 9 62 (.slice a1 n k1) (.slice a2 m k2) d → base ≤ w'.heap.size → Calls Try.prog 39 #[.agg #[.slice a1 n k1, .slice a2 m k2], .int .i64 i, .string s] w' fun e w'' => ∃ a3 k3, e = .returned (.tuple #[.agg #[.slice a1 n k1, .slice a3 (m + 1) k3], .int .i64 0]) ∧
      DM.OD w'' base 9 62 (.slice a1 n k1) (.slice a3 (m + 1) k3) (DM.addW d i s) ∧ DM.But (DM.own2 (.slice a1 n k1) (.slice a2 m k2)) w' w'') := Lib.hid (fun he base a1 k1 a2 k2 w' h hb => by
    have hin : DM.inD n i ∧ s.size ≤ 32 := by
      unfold DM.writeE at he
      by_cases h1 : DM.inD n i
      · rw [if_pos h1] at he
        by_cases h2 : 32 < s.size
        · rw [if_pos h2] at he; omega
        · exact ⟨h1, by omega⟩
      · rw [if_neg h1] at he; omega
    subst hn hm
    refine (write_yes base a1 a2 k1 k2 d i s w' h hb b1 b2 hin.1 hin.2).mono ?_
    rintro e w'' ⟨a3, k3, rfl, h1, h2, _⟩
    exact ⟨a3, k3, rfl, h1, h2⟩)
  have H := Lib.hid h; clear h
  have hcase : (x = false ∧ DM.putE d i s = 1 ∧ DM.putD d i s = d) ∨ (x = true ∧ DM.writeE n i s ≠ 0 ∧ DM.putE d i s = DM.writeE n i s ∧ DM.putD d i s = d) ∨ (x = true ∧ DM.writeE n i s = 0 ∧ DM.putE d i s = 0 ∧ DM.putD d i s = DM.addW d i s) := by
    by_cases hmay : DM.mayD d
    · have hx1 : x = true := by rw [← hx]; exact decide_eq_true hmay
      unfold DM.putE DM.putD DM.writeD
      rw [if_pos hmay, if_pos hmay, hn]
      by_cases h0 : DM.writeE n i s = 0
      · rw [if_pos h0]; exact Or.inr (Or.inr ⟨hx1, h0, h0, rfl⟩)
      · rw [if_neg h0]; exact Or.inr (Or.inl ⟨hx1, h0, rfl, rfl⟩)
    · have hx1 : x = false := by rw [← hx]; exact decide_eq_false hmay
      unfold DM.putE DM.putD
      rw [if_neg hmay, if_neg hmay]
      exact Or.inl ⟨hx1, rfl, rfl⟩
  have HN := Lib.hid hn; clear hn
  have HM := Lib.hid hm; clear hm
  clear hx
  rcases hcase with ⟨rfl, e1, e2⟩ | ⟨rfl, he, e1, e2⟩ | ⟨rfl, he, e1, e2⟩
  all_goals
    rw [e1, e2]
    clear e1 e2
    go_enter Try.func21, Try.ntmps21
    go_wp2_with fail
    have V := Lib.hid (DM.Var.two w (.slice a1 n k1) (.slice a2 m k2) (.slice none 0 0) (.slice none 0 0) 25)
    have B0 := Lib.hid (DM.below_two w (.cells #[.slice a1 n k1, .slice a2 m k2] 25) (.cells #[.slice none 0 0, .slice none 0 0] 25))
    have hz0 : w.heap.size + 1 < ((w.alloc (.cells #[.slice a1 n k1, .slice a2 m k2] 25)).alloc (.cells #[.slice none 0 0, .slice none 0 0] 25)).heap.size := by simp
    generalize hW0 : (w.alloc (.cells #[.slice a1 n k1, .slice a2 m k2] 25)).alloc (.cells #[.slice none 0 0, .slice none 0 0] 25) = W0 at *
    clear hW0
    refine (C1.out _ (H.out.below B0.out)).mono ?_; rintro e w1 ⟨b1', q1, b2', q2, rfl, O1, B1⟩
    have O1 := Lib.hid O1
    have A1 := Lib.hid (V.out.1.below B1)
    have R1 := Lib.hid (V.out.2.below B1)
    have BW1 : Below w.heap.size w w1 := B0.out.trans (B1.mono B0.out.size)
    have D1 := Lib.hid (H.out.below BW1)
    have c0 := A1.out.c0
    have c1 := A1.out.c1
    have l0 := A1.out.lt
    have z1 := B1.size
    have HB1 := Lib.hid B1; clear B1
    go_wp2_with fail
    have BA : Below w1.heap.size w1 (w1.alloc (.cells #[.slice b1' n q1, .slice b2' m q2] 25)) := (Below.refl _ _).alloc (Nat.le_refl _) _
    refine (C2.out _ (D1.out.below BA)).mono ?_; rintro e w2 ⟨rfl, B2⟩
    have O2 := Lib.hid ((O1.out.below BA).below B2)
    have A2 := Lib.hid ((A1.out.below BA).below B2)
    have R2 := Lib.hid ((R1.out.below BA).below B2)
    have S2 := Lib.hid ((DM.Var.made w1 (.slice b1' n q1) (.slice b2' m q2) 25).below B2)
    have BW2 : Below w.heap.size w w2 := (BW1.trans (BA.mono BW1.size)).trans (B2.mono (by have := BW1.size; simp; omega))
    have z2 : W0.heap.size ≤ w2.heap.size := by have := B2.size; simp at this; omega
    have s0 := S2.out.c0
    have s1 := S2.out.c1
    have r0 := R2.out.c0
    have r1 := R2.out.c1
    have g0 := R2.out.f0
    have g1 := R2.out.f1
    have l2 := S2.out.lt
    have l3 := R2.out.lt
    clear B2 BA c0 c1 l0 D1 O1 A1 R1 A2
    go_wp2_with fail
  · refine bodyPost_ret (results_dke rfl _ _ (w.heap.size + 1) b1' b2' n q1 m q2 rfl (by go_simp) (by go_simp)) rfl ⟨b1', n, q1, b2', m, q2, rfl, ?_, ?_, fun k hk => by have := (O2.out.ge _ hk).1; omega, DM.OD.caps O2.out⟩
    · exact DM.DV.but O2.out (DM.set2 (B := w.heap.size + 1) (u := .slice b1' n q1) (v := .slice b2' m q2)) (fun k hk => by omega)
    · exact (BW2.setCell (by simp) _).setCell (by simp) _
  · refine (C3.out he b1' q1 b2' q2 _).mono ?_; rintro e w3 ⟨rfl, B3⟩
    have O3 := Lib.hid (O2.out.below B3)
    have R3 := Lib.hid (R2.out.below B3)
    have BW3 : Below w.heap.size w w3 := BW2.trans (B3.mono BW2.size)
    have HE := Lib.hid he
    clear B3 O2 R2 S2 s0 s1 r0 r1 g0 g1 he
    have r0 := R3.out.c0
    have r1 := R3.out.c1
    have g0 := R3.out.f0
    have g1 := R3.out.f1
    go_wp2_with fail
    refine bodyPost_ret (results_dke rfl _ _ (w.heap.size + 1) b1' b2' n q1 m q2 rfl (by go_simp) (by go_simp)) rfl ⟨b1', n, q1, b2', m, q2, rfl, ?_, ?_, fun k hk => by have := (O3.out.ge _ hk).1; omega, DM.OD.caps O3.out⟩
    · exact DM.DV.but O3.out (DM.set2 (B := w.heap.size + 1) (u := .slice b1' n q1) (v := .slice b2' m q2)) (fun k hk => by omega)
    · exact (BW3.setCell (by simp) _).setCell (by simp) _
  · refine (C4.out he W0.heap.size b1' q1 b2' q2 _ O2.out z2).mono ?_; rintro e w3 ⟨b3', q3, rfl, O3, BU3⟩
    have O3 := Lib.hid O3
    have R3 := Lib.hid (BU3.var R2.out (fun h => by have := (O2.out.ge _ h).1; omega))
    have BW3 : Below w.heap.size w w3 := BW2.trans (BU3.to_below BW2.size (fun k hk => by have := (O2.out.ge _ hk).1; omega))
    have HE := Lib.hid he
    clear BU3 O2 R2 S2 s0 s1 r0 r1 g0 g1 he
    have r0 := R3.out.c0
    have r1 := R3.out.c1
    have g0 := R3.out.f0
    have g1 := R3.out.f1
    go_wp2_with fail
    refine bodyPost_ret (results_dke rfl _ _ (w.heap.size + 1) b1' b3' n q1 (m + 1) q3 rfl (by go_simp) (by go_simp)) rfl ⟨b1', n, q1, b3', m + 1, q3, rfl, ?_, ?_, fun k hk => by have := (O3.out.ge _ hk).1; omega, DM.OD.caps O3.out⟩
    · exact DM.DV.but O3.out (DM.set2 (B := w.heap.size + 1) (u := .slice b1' n q1) (v := .slice b3' (m + 1) q3)) (fun k hk => by omega)
    · exact (BW3.setCell (by simp) _).setCell (by simp) _
set_option maxHeartbeats 1600000 in
set_option maxRecDepth 100000 in
theorem bflush_own (a1 a2 : Option Addr) (k1 k2 n m : Nat) (d : DM.Dk) (w : World) (h : DM.DV w (.slice a1 n k1) (.slice a2 m k2) d) (hn : d.secs.length = n) (hm : d.cache.length = m) (b1 : n ≤ 1000000) (b2 : m ≤ 1000000) :
    Calls Try.prog 49 #[.agg #[.slice a1 n k1, .slice a2 m k2]] w fun e w' => ∃ a3 n3 k3 a4 n4 k4, e = .returned (.tuple #[.agg #[.slice a3 n3 k3, .slice a4 n4 k4], .int .i64 (DM.argE d)]) ∧
      DM.DV w' (.slice a3 n3 k3) (.slice a4 n4 k4) (DM.crashD (fun _ => true) d) ∧ Below w.heap.size w w' ∧ (∀ k, DM.own2 (.slice a3 n3 k3) (.slice a4 n4 k4) k → w.heap.size ≤ k) ∧ (n3 ≤ k3 ∧ k3 ≤ maxLen ∧ n4 ≤ k4 ∧ k4 ≤ maxLen) := by
  have C1 : Hid (∀ w', DM.DV w' (.slice a1 n k1) (.slice a2 m k2) d → Calls Try.prog 36 #[.agg #[.slice a1 n k1, .slice a2 m k2]] w' fun e w'' => ∃ a1 k1 a2 k2, e = .returned (.agg #[.slice a1 n k1, .slice a2 m k2]) ∧ DM.OD w'' w'.heap.size 9 62 (.slice a1 n k1) (.slice a2 m k2) d ∧ Below w'.heap.size w' w'') := Lib.hid (fun w' h => by
    have := clone_any _ _ d w' h (by omega) (by omega)
    rw [hn, hm] at this
    exact this)
  obtain ⟨x, hx⟩ : ∃ x, decide (DM.mayD d) = x := ⟨_, rfl⟩
  have C2 : Hid (∀ w', DM.DV w' (.slice a1 n k1) (.slice a2 m k2) d → Calls Try.prog 37 #[.agg #[.slice a1 n k1, .slice a2 m k2]] w' fun e w'' => e = .returned (.bool x) ∧ Below w'.heap.size w' w'') := Lib.hid (fun w' h => by
    have := may_any _ _ d w' h (by omega) (by omega)
    rw [hx] at this
    exact this)
  have C4 : Hid (DM.mayD d → ∀ base a1 k1 a2 k2 w', DM.OD w' base 9 62 (.slice a1 n k1) (.slice a2 m k2) d → base ≤ w'.heap.size → Calls Try.prog 38 #[.agg #[.slice a1 n k1, .slice a2 m k2]] w' fun e w'' => e = .returned (.agg #[.slice a1 n k1, .slice none 0 0]) ∧
      DM.OD w'' base 9 62 (.slice a1 n k1) (.slice none 0 0) (DM.settleD (fun _ => true) d) ∧ DM.But (DM.own2 (.slice a1 n k1) (.slice a2 m k2)) w' w'') := Lib.hid (fun hmay base a1 k1 a2 k2 w' h hb => flush_any base a1 a2 k1 k2 n m d w' h hb hn hm hmay b2)
  have H := Lib.hid h; clear h
  have hcase : (x = false ∧ DM.argE d = 1 ∧ DM.crashD (fun _ => true) d = d) ∨ (x = true ∧ DM.mayD d ∧ DM.argE d = 0 ∧ DM.crashD (fun _ => true) d = DM.settleD (fun _ => true) d) := by
    by_cases hmay : DM.mayD d
    · refine Or.inr ⟨by rw [← hx]; exact decide_eq_true hmay, hmay, if_pos hmay, if_pos hmay⟩
    · refine Or.inl ⟨by rw [← hx]; exact decide_eq_false hmay, if_neg hmay, if_neg hmay⟩
  have HN := Lib.hid hn; clear hn
  have HM := Lib.hid hm; clear hm

  clear hx
  rcases hcase with ⟨rfl, e1, e2⟩ | ⟨rfl, hmay, e1, e2⟩
  all_goals
    rw [e1, e2]
    clear e1 e2
    go_enter Try.func49, Try.ntmps49
    go_wp2_with fail
    have V := Lib.hid (DM.Var.two w (.slice a1 n k1) (.slice a2 m k2) (.slice none 0 0) (.slice none 0 0) 25)
    have B0 : Hid (Below w.heap.size w ((w.alloc (.cells #[.slice a1 n k1, .slice a2 m k2] 25)).alloc (.cells #[.slice none 0 0, .slice none 0 0] 25))) := Lib.hid (DM.below_two w _ _)
    have hz0 : w.heap.size + 1 < ((w.alloc (.cells #[.slice a1 n k1, .slice a2 m k2] 25)).alloc (.cells #[.slice none 0 0, .slice none 0 0] 25)).heap.size := by simp
    generalize hW0 : (w.alloc (.cells #[.slice a1 n k1, .slice a2 m k2] 25)).alloc (.cells #[.slice none 0 0, .slice none 0 0] 25) = W0 at *
    clear hW0
    refine (C1.out _ (H.out.below B0.out)).mono ?_; rintro e w1 ⟨b1', q1, b2', q2, rfl, O1, B1⟩
    have O1 := Lib.hid O1
    have A1 := Lib.hid (V.out.1.below B1)
    have R1 := Lib.hid (V.out.2.below B1)
    have BW1 : Below w.heap.size w w1 := B0.out.trans (B1.mono B0.out.size)
    have D1 := Lib.hid (H.out.below BW1)

    have c0 := A1.out.c0
    have c1 := A1.out.c1
    have l0 := A1.out.lt
    have z1 := B1.size
    have HB1 := Lib.hid B1; clear B1
    go_wp2_with fail
    have BA : Below w1.heap.size w1 (w1.alloc (.cells #[.slice b1' n q1, .slice b2' m q2] 25)) := (Below.refl _ _).alloc (Nat.le_refl _) _
    refine (C2.out _ (D1.out.below BA)).mono ?_; rintro e w2 ⟨rfl, B2⟩
    have O2 := Lib.hid ((O1.out.below BA).below B2)
    have R2 := Lib.hid ((R1.out.below BA).below B2)
    have S2 := Lib.hid ((DM.Var.made w1 (.slice b1' n q1) (.slice b2' m q2) 25).below B2)
    have BW2 : Below w.heap.size w w2 := (BW1.trans (BA.mono BW1.size)).trans (B2.mono (by have := BW1.size; simp; omega))
    have z2 : W0.heap.size ≤ w2.heap.size := by have := B2.size; simp at this; omega

    have s0 := S2.out.c0
    have s1 := S2.out.c1
    have r0 := R2.out.c0
    have r1 := R2.out.c1
    have g0 := R2.out.f0
    have g1 := R2.out.f1
    have l2 := S2.out.lt
    have l3 := R2.out.lt
    clear B2 BA c0 c1 l0 D1 O1 A1 R1

    go_wp2_with fail
  · refine bodyPost_ret (results_dke rfl _ _ (w.heap.size + 1) b1' b2' n q1 m q2 rfl (by go_simp) (by go_simp)) rfl ⟨b1', n, q1, b2', m, q2, rfl, ?_, ?_, fun k hk => by have := (O2.out.ge _ hk).1; omega, DM.OD.caps O2.out⟩
    · exact DM.DV.but O2.out (DM.set2 (B := w.heap.size + 1) (u := .slice b1' n q1) (v := .slice b2' m q2)) (fun k hk => by omega)
    · exact (BW2.setCell (by simp <;> omega) _).setCell (by simp <;> omega) _
  · refine (C4.out hmay W0.heap.size b1' q1 b2' q2 _ O2.out z2).mono ?_; rintro e w3 ⟨rfl, O3, BU3⟩
    have O3 := Lib.hid O3
    have R3 := Lib.hid (BU3.var R2.out (fun h => by have := (O2.out.ge _ h).1; omega))
    have BW3 : Below w.heap.size w w3 := BW2.trans (BU3.to_below BW2.size (fun k hk => by have := (O2.out.ge _ hk).1; omega))
    clear BU3 O2 R2 S2 s0 s1 r0 r1 g0 g1 
    have r0 := R3.out.c0
    have r1 := R3.out.c1
    have g0 := R3.out.f0
    have g1 := R3.out.f1
    go_wp2_with fail
    refine bodyPost_ret (results_dke rfl _ _ (w.heap.size + 1) b1' none n q1 0 0 rfl (by go_simp) (by go_simp)) rfl ⟨b1', n, q1, none, 0, 0, rfl, ?_, ?_, fun k hk => by have := (O3.out.ge _ hk).1; omega, DM.OD.caps O3.out⟩
    · exact DM.DV.but O3.out (DM.set2 (B := w.heap.size + 1) (u := .slice b1' n q1) (v := .slice none 0 0)) (fun k hk => by omega)
    · exact (BW3.setCell (by simp <;> omega) _).setCell (by simp <;> omega) _
set_option maxHeartbeats 1600000 in
set_option maxRecDepth 100000 in
theorem crash_own (a1 a2 : Option Addr) (k1 k2 n m : Nat) (d : DM.Dk) (a3 : Option Addr) (k3 : Nat) (l : List Bool) (w : World) (h : DM.DV w (.slice a1 n k1) (.slice a2 m k2) d) (hn : d.secs.length = n) (hm : d.cache.length = m) (b1 : n ≤ 1000000) (b2 : m ≤ 1000000) (hv : BV w (.slice a3 l.length k3) l) (b3 : l.length ≤ 1000000) :
    Calls Try.prog 13 #[.agg #[.slice a1 n k1, .slice a2 m k2], .slice a3 l.length k3] w fun e w' => ∃ a3 n3 k3 a4 n4 k4, e = .returned (.tuple #[.agg #[.slice a3 n3 k3, .slice a4 n4 k4], .int .i64 (DM.argE d)]) ∧
      DM.DV w' (.slice a3 n3 k3) (.slice a4 n4 k4) (DM.crashD (fun j => l.getD j false) d) ∧ Below w.heap.size w w' ∧ (∀ k, DM.own2 (.slice a3 n3 k3) (.slice a4 n4 k4) k → w.heap.size ≤ k) ∧ (n3 ≤ k3 ∧ k3 ≤ maxLen ∧ n4 ≤ k4 ∧ k4 ≤ maxLen) := by
  have C1 : Hid (∀ w', DM.DV w' (.slice a1 n k1) (.slice a2 m k2) d → Calls Try.prog 36 #[.agg #[.slice a1 n k1, .slice a2 m k2]] w' fun e w'' => ∃ a1 k1 a2 k2, e = .returned (.agg #[.slice a1 n k1, .slice a2 m k2]) ∧ DM.OD w'' w'.heap.size 9 62 (.slice a1 n k1) (.slice a2 m k2) d ∧ Below w'.heap.size w' w'') := Lib.hid (fun w' h => by
    have := clone_any _ _ d w' h (by omega) (by omega)
    rw [hn, hm] at this
    exact this)
  obtain ⟨x, hx⟩ : ∃ x, decide (DM.mayD d) = x := ⟨_, rfl⟩
  have C2 : Hid (∀ w', DM.DV w' (.slice a1 n k1) (.slice a2 m k2) d → Calls Try.prog 37 #[.agg #[.slice a1 n k1, .slice a2 m k2]] w' fun e w'' => e = .returned (.bool x) ∧ Below w'.heap.size w' w'') := Lib.hid (fun w' h => by
    have := may_any _ _ d w' h (by omega) (by omega)
    rw [hx] at this
    exact this)
  have C4 : Hid (DM.mayD d → ∀ base a1 k1 a2 k2 w', DM.OD w' base 9 62 (.slice a1 n k1) (.slice a2 m k2) d → base ≤ w'.heap.size → BV w' (.slice a3 l.length k3) l → w'.cell? ⟨w.heap.size + 1, 0, none⟩ = some (.slice a3 l.length k3) → w.heap.size + 1 < base → Calls Try.prog 41 #[.agg #[.slice a1 n k1, .slice a2 m k2], .func (.func 40) #[] #[.pointer (some ⟨w.heap.size + 1, 0, none⟩)]] w' fun e w'' => e = .returned (.agg #[.slice a1 n k1, .slice none 0 0]) ∧
      DM.OD w'' base 9 62 (.slice a1 n k1) (.slice none 0 0) (DM.settleD (fun j => l.getD j false) d) ∧ DM.But (DM.own2 (.slice a1 n k1) (.slice a2 m k2)) w' w'') := Lib.hid (fun hmay base a1 k1 a2 k2 w' h hb hbv hcell hlt => by
    have hbl : ∀ b off, a3 = some ⟨b, off, none⟩ → 0 < l.length → b < w.heap.size := fun b off e h0 => by
      obtain ⟨a', c', h1, h2⟩ := hv
      simp only [Value.slice.injEq] at h1
      obtain ⟨b', off', h3, h4, _⟩ := h2 h0
      rw [← h1.1, e] at h3
      simp only [Option.some.injEq, Addr.mk.injEq] at h3
      omega
    subst hn hm
    refine settle_crash (w.heap.size + 1) (fun j => l.getD j false) base a1 a2 k1 k2 d w' h hb hmay b2 (fun w'' hbut j _ => ?_)
    have hnot : ∀ k, k < base → ¬ DM.own2 (.slice a1 d.secs.length k1) (.slice a2 d.cache.length k2) k := fun k hk ho => by have := (h.ge k ho).1; omega
    refine crash1_any l (.slice a3 l.length k3) (w.heap.size + 1) j w'' ?_ ?_ (by omega)
    · obtain ⟨a', c', h1, h2⟩ := hbv
      refine ⟨a', c', h1, fun h0 => ?_⟩
      obtain ⟨b', off', h3, h4, h5⟩ := h2 h0
      simp only [Value.slice.injEq] at h1
      have hb' := hbl b' off' (h1.1.trans h3) h0
      exact ⟨b', off', h3, Nat.lt_of_lt_of_le h4 hbut.size, fun q hq => (hbut.cell (p := ⟨b', off' + q, none⟩) h4 (hnot b' (by omega))).trans (h5 q hq)⟩
    · exact (hbut.cell (p := ⟨w.heap.size + 1, 0, none⟩) (by show w.heap.size + 1 < w'.heap.size; omega) (hnot _ hlt)).trans hcell)
  have H := Lib.hid h; clear h
  have hcase : (x = false ∧ DM.argE d = 1 ∧ DM.crashD (fun j => l.getD j false) d = d) ∨ (x = true ∧ DM.mayD d ∧ DM.argE d = 0 ∧ DM.crashD (fun j => l.getD j false) d = DM.settleD (fun j => l.getD j false) d) := by
    by_cases hmay : DM.mayD d
    · refine Or.inr ⟨by rw [← hx]; exact decide_eq_true hmay, hmay, if_pos hmay, if_pos hmay⟩
    · refine Or.inl ⟨by rw [← hx]; exact decide_eq_false hmay, if_neg hmay, if_neg hmay⟩
  have HN := Lib.hid hn; clear hn
  have HM := Lib.hid hm; clear hm
  have HV := Lib.hid hv; clear hv
  clear hx
  rcases hcase with ⟨rfl, e1, e2⟩ | ⟨rfl, hmay, e1, e2⟩
  all_goals
    rw [e1, e2]
    clear e1 e2
    go_enter Try.func13, Try.ntmps13
    go_wp2_with fail
    have V := Lib.hid (DM.Var.three w (.slice a1 n k1) (.slice a2 m k2) (.slice none 0 0) (.slice none 0 0) (.slice a3 l.length k3) 25 28)
    have B0 : Hid (Below w.heap.size w (((w.alloc (.cells #[.slice a1 n k1, .slice a2 m k2] 25)).alloc (.cells #[.slice a3 l.length k3] 28)).alloc (.cells #[.slice none 0 0, .slice none 0 0] 25))) := Lib.hid (DM.below_three w _ _ _)
    have hz0 : w.heap.size + 2 < (((w.alloc (.cells #[.slice a1 n k1, .slice a2 m k2] 25)).alloc (.cells #[.slice a3 l.length k3] 28)).alloc (.cells #[.slice none 0 0, .slice none 0 0] 25)).heap.size := by simp
    generalize hW0 : ((w.alloc (.cells #[.slice a1 n k1, .slice a2 m k2] 25)).alloc (.cells #[.slice a3 l.length k3] 28)).alloc (.cells #[.slice none 0 0, .slice none 0 0] 25) = W0 at *
    clear hW0
    refine (C1.out _ (H.out.below B0.out)).mono ?_; rintro e w1 ⟨b1', q1, b2', q2, rfl, O1, B1⟩
    have O1 := Lib.hid O1
    have A1 := Lib.hid (V.out.1.below B1)
    have R1 := Lib.hid (V.out.2.1.below B1)
    have BW1 : Below w.heap.size w w1 := B0.out.trans (B1.mono B0.out.size)
    have D1 := Lib.hid (H.out.below BW1)
    have X1 : w1.cell? ⟨w.heap.size + 1, 0, none⟩ = some (.slice a3 l.length k3) := (B1.cell (p := ⟨w.heap.size + 1, 0, none⟩) (by show w.heap.size + 1 < W0.heap.size; omega)).trans V.out.2.2
    have c0 := A1.out.c0
    have c1 := A1.out.c1
    have l0 := A1.out.lt
    have z1 := B1.size
    have HB1 := Lib.hid B1; clear B1
    go_wp2_with fail
    have BA : Below w1.heap.size w1 (w1.alloc (.cells #[.slice b1' n q1, .slice b2' m q2] 25)) := (Below.refl _ _).alloc (Nat.le_refl _) _
    refine (C2.out _ (D1.out.below BA)).mono ?_; rintro e w2 ⟨rfl, B2⟩
    have O2 := Lib.hid ((O1.out.below BA).below B2)
    have R2 := Lib.hid ((R1.out.below BA).below B2)
    have S2 := Lib.hid ((DM.Var.made w1 (.slice b1' n q1) (.slice b2' m q2) 25).below B2)
    have BW2 : Below w.heap.size w w2 := (BW1.trans (BA.mono BW1.size)).trans (B2.mono (by have := BW1.size; simp; omega))
    have z2 : W0.heap.size ≤ w2.heap.size := by have := B2.size; simp at this; omega
    have X2 : w2.cell? ⟨w.heap.size + 1, 0, none⟩ = some (.slice a3 l.length k3) := (B2.cell (p := ⟨w.heap.size + 1, 0, none⟩) (by simp; omega)).trans ((BA.cell (p := ⟨w.heap.size + 1, 0, none⟩) (by show w.heap.size + 1 < w1.heap.size; omega)).trans X1)
    have s0 := S2.out.c0
    have s1 := S2.out.c1
    have r0 := R2.out.c0
    have r1 := R2.out.c1
    have g0 := R2.out.f0
    have g1 := R2.out.f1
    have l2 := S2.out.lt
    have l3 := R2.out.lt
    clear B2 BA c0 c1 l0 D1 O1 A1 R1
    have hmf : ∀ (fn : Fn) (first cap : Array Value) (w : World), (Instr.makeFunc fn first cap).run Try.prog w = .ok (.func fn first cap) w := fun _ _ _ _ => rfl
    go_wp2_with fail
  · refine bodyPost_ret (results_dke rfl _ _ (w.heap.size + 2) b1' b2' n q1 m q2 rfl (by go_simp) (by go_simp)) rfl ⟨b1', n, q1, b2', m, q2, rfl, ?_, ?_, fun k hk => by have := (O2.out.ge _ hk).1; omega, DM.OD.caps O2.out⟩
    · exact DM.DV.but O2.out (DM.set2 (B := w.heap.size + 2) (u := .slice b1' n q1) (v := .slice b2' m q2)) (fun k hk => by omega)
    · exact (BW2.setCell (by simp <;> omega) _).setCell (by simp <;> omega) _
  · refine (C4.out hmay W0.heap.size b1' q1 b2' q2 _ O2.out z2 (HV.out.below BW2) X2 (by omega)).mono ?_; rintro e w3 ⟨rfl, O3, BU3⟩
    have O3 := Lib.hid O3
    have R3 := Lib.hid (BU3.var R2.out (fun h => by have := (O2.out.ge _ h).1; omega))
    have BW3 : Below w.heap.size w w3 := BW2.trans (BU3.to_below BW2.size (fun k hk => by have := (O2.out.ge _ hk).1; omega))
    clear BU3 O2 R2 S2 s0 s1 r0 r1 g0 g1 hmf
    have r0 := R3.out.c0
    have r1 := R3.out.c1
    have g0 := R3.out.f0
    have g1 := R3.out.f1
    go_wp2_with fail
    refine bodyPost_ret (results_dke rfl _ _ (w.heap.size + 2) b1' none n q1 0 0 rfl (by go_simp) (by go_simp)) rfl ⟨b1', n, q1, none, 0, 0, rfl, ?_, ?_, fun k hk => by have := (O3.out.ge _ hk).1; omega, DM.OD.caps O3.out⟩
    · exact DM.DV.but O3.out (DM.set2 (B := w.heap.size + 2) (u := .slice b1' n q1) (v := .slice none 0 0)) (fun k hk => by omega)
    · exact (BW3.setCell (by simp <;> omega) _).setCell (by simp <;> omega) _
end DiskW
end Go.Proofs.Ytabmdijfholakaa

/- Layer 1's contracts, for the plain machine: New, Put, Get, Flush, Crash, Same. -/
namespace Go.Proofs.Ytabmdijfholakaa.AM
open Go.RowKit Go.ChangeShapes Go.WideShapes Go.ChangeAt
set_option linter.unusedVariables false
theorem bv_of {Pc : Nat → Nat → Prop} {w : World} {v : Value} {l : List Bool} (hlt : ∀ b o, Pc b o → b < w.heap.size) (h : DatRep Pc w v (.lst 1 (bolD l))) : ∃ a cap, v = .slice a l.length cap ∧ DiskW.BV w v l := by
  obtain ⟨a, cap, e, h1, h2, h3⟩ := lst_inv hlt (by decide) h
  have hl := bolD_len l
  rw [hl] at e h1
  refine ⟨a, cap, e, a, cap, e, fun h0 => ?_⟩
  obtain ⟨b, off, ea, hb, hc⟩ := h3 (by omega)
  refine ⟨b, off, ea, hb, fun j hj => ?_⟩
  obtain ⟨c, g1, g2⟩ := hc j 0 (by omega) (by simp [bolD])
  simp only [bolD, List.getElem_map, List.getElem_cons_zero] at g2
  rw [v_inv g2] at g1
  simpa using g1
variable {G : World → Prop}
theorem put_pc (d : DM.Dk) (i : Int) (s : ByteArray) (b1 : d.secs.length ≤ 1000000) (b2 : d.cache.length ≤ 1000000) (hs : s.size ≤ maxLen) : PCalls Try.prog G 21 [.one (dk1 d), valD (.int .i64 i), valD (.string s)] (outD (DM.putD d i s) (DM.putE d i s)) := by
  intro Pc w vs _ hlt hv
  obtain ⟨v, v', v'', rfl, h, h', h''⟩ := args3 hv
  obtain ⟨a1, k1, a2, k2, rfl, hd, _, _⟩ := dv_of hlt h
  obtain rfl := of_val h'
  obtain rfl := of_val h''
  refine (DiskW.put_own a1 a2 k1 k2 _ _ d i s w hd rfl rfl b1 b2 hs).mono ?_
  rintro e w' ⟨a5, n5, k5, a6, n6, k6, rfl, h1, h2, h3, c1, c2, c3, c4⟩
  exact ⟨_, fun b o => Pc b o ∨ (w.heap.size ≤ b ∧ b < w'.heap.size), rfl, h2, fun _ _ h => Or.inl h, fun _ _ h => h, _, rfl, dk_of h1 c1 c2 c3 c4 (fun g o h1 h2 => Or.inr ⟨h1, h2⟩) h3, crep_val (σ := noSt) _, trivial⟩
theorem flush_pc (d : DM.Dk) (b1 : d.secs.length ≤ 1000000) (b2 : d.cache.length ≤ 1000000) : PCalls Try.prog G 49 [.one (dk1 d)] (outD (DM.crashD (fun _ => true) d) (DM.argE d)) := by
  intro Pc w vs _ hlt hv
  obtain ⟨v, rfl, h⟩ := args1 hv
  obtain ⟨a1, k1, a2, k2, rfl, hd, _, _⟩ := dv_of hlt h
  refine (DiskW.bflush_own a1 a2 k1 k2 _ _ d w hd rfl rfl b1 b2).mono ?_
  rintro e w' ⟨a5, n5, k5, a6, n6, k6, rfl, h1, h2, h3, c1, c2, c3, c4⟩
  exact ⟨_, fun b o => Pc b o ∨ (w.heap.size ≤ b ∧ b < w'.heap.size), rfl, h2, fun _ _ h => Or.inl h, fun _ _ h => h, _, rfl, dk_of h1 c1 c2 c3 c4 (fun g o h1 h2 => Or.inr ⟨h1, h2⟩) h3, crep_val (σ := noSt) _, trivial⟩
theorem crash_pc (d : DM.Dk) (keep : List Bool) (b1 : d.secs.length ≤ 1000000) (b2 : d.cache.length ≤ 1000000) (b3 : keep.length ≤ 1000000) : PCalls Try.prog G 13 [.one (dk1 d), lstD 1 (bolD keep)] (outD (DM.crashD (fun j => keep.getD j false) d) (DM.argE d)) := by
  intro Pc w vs _ hlt hv
  obtain ⟨v, v', rfl, h, h'⟩ := args2 hv
  obtain ⟨a1, k1, a2, k2, rfl, hd, _, _⟩ := dv_of hlt h
  obtain ⟨a3, k3, rfl, hk⟩ := bv_of hlt h'
  refine (DiskW.crash_own a1 a2 k1 k2 _ _ d a3 k3 keep w hd rfl rfl b1 b2 hk b3).mono ?_
  rintro e w' ⟨a5, n5, k5, a6, n6, k6, rfl, h1, h2, h3, c1, c2, c3, c4⟩
  exact ⟨_, fun b o => Pc b o ∨ (w.heap.size ≤ b ∧ b < w'.heap.size), rfl, h2, fun _ _ h => Or.inl h, fun _ _ h => h, _, rfl, dk_of h1 c1 c2 c3 c4 (fun g o h1 h2 => Or.inr ⟨h1, h2⟩) h3, crep_val (σ := noSt) _, trivial⟩
/-! ### arguments that come in -/
section
variable {H : Type} {enc : TypeId × Value → H} {W : World} {base : Nat} {v : Value} {d : DataW H} {p : List MemPlace}
end
end Go.Proofs.Ytabmdijfholakaa.AM

/- Typed data over the plain machine: what slots, variables and lists hold, by their types; what an operation does to it, as a partial function. -/
namespace Go.Proofs.Ytabmdijfholakaa.AM
open Go.RowKit
set_option linter.unusedVariables false
set_option linter.unusedSimpArgs false

inductive Ty where
  | int (k : IntKind)
  | bool
  | str
  | lst (e : Ty)
  | prod (a b : Ty)
deriving DecidableEq
@[reducible] def den : Ty → Type
  | .int _ => Int
  | .bool => Bool
  | .str => List UInt8
  | .lst e => List (den e)
  | .prod a b => den a × den b
def width : Ty → Nat
  | .prod a b => width a + width b
  | _ => 1
def ba (s : List UInt8) : ByteArray := ⟨s.toArray⟩
def toDats : (e : Ty) → den e → List Dat
  | .int k, (n : Int) => [.v (.int k n)]
  | .bool, (b : Bool) => [.v (.bool b)]
  | .str, (s : List UInt8) => [.v (.string (ba s))]
  | .lst e, (l : List (den e)) => [.lst (width e) (l.map (toDats e))]
  | .prod a b, (p : den a × den b) => toDats a p.1 ++ toDats b p.2
theorem toDats_prod (a b : Ty) (p : den (.prod a b)) : toDats (.prod a b) p = toDats a (Prod.fst (p : den a × den b)) ++ toDats b (Prod.snd (p : den a × den b)) := rfl
theorem toDats_len : ∀ (e : Ty) (x : den e), (toDats e x).length = width e
  | .int _, _ => rfl
  | .bool, _ => rfl
  | .str, _ => rfl
  | .lst _, _ => rfl
  | .prod a b, p => by rw [toDats_prod, List.length_append, toDats_len a, toDats_len b]; rfl

inductive TC where
  | d (ty : Ty) (x : den ty)
  | nil
  | box (β off : Nat)
  | row (t g : Nat)
  | rp (e : Ty) (off : Nat) (x : den e)
  | wp (t g k off : Nat)
  | fn (f : Nat) (caps : List Nat)
  | undef
  | bad
def eC : TC → C
  | .d ty x => .d ((toDats ty x).headD (.v Go.undef))
  | .nil => .d (.v (.slice none 0 0))
  | .box β o => .box β o
  | .row t g => .row t g
  | .rp e off x => .rp ((toDats e x).drop off)
  | .wp t g k o => .wp t g k o
  | .fn f [] => .d (.v (.func (.func f) #[] #[]))
  | .fn f (c :: cs) => .fn f (c :: cs)
  | .undef => .d (.v Go.undef)
  | .bad => .bad
inductive TD1 where
  | c (x : TC)
  | agg (cs : List TC)
inductive TD where
  | one (x : TD1)
  | tup (xs : List TD1)
def e1 : TD1 → D1
  | .c x => .c (eC x)
  | .agg cs => .agg (cs.map eC)
def eD : TD → D
  | .one x => .one (e1 x)
  | .tup xs => .tup (xs.map e1)
structure TRow where
  gen : Nat
  E : Nat
  wr : Bool
  e : Ty
  xs : List (den e)
def eR (r : TRow) : Row := ⟨r.gen, r.E, width r.e, r.wr, r.xs.map (toDats r.e)⟩
structure TSt where
  slots : List (Nat × TD)
  boxes : List (Nat × (Nat × List TC))
  rows : List (Nat × TRow)
def lk {α : Type} : List (Nat × α) → Nat → Option α
  | [], _ => none
  | (j, x) :: l, i => bif Nat.beq j i then some x else lk l i
def eB (p : Nat × List TC) : Nat × List C := (p.1, p.2.map eC)
def eS (σ : TSt) : St :=
  { slot := fun i => match lk σ.slots i with | some x => eD x | none => .one (.c .bad)
    box := fun i => (lk σ.boxes i).map eB
    row := fun i => (lk σ.rows i).map eR }
theorem lk_cons {α : Type} (j : Nat) (x : α) (l : List (Nat × α)) (i : Nat) : lk ((j, x) :: l) i = if i = j then some x else lk l i := by
  show (bif Nat.beq j i then some x else lk l i) = _
  by_cases h : i = j
  · subst h; rw [if_pos rfl]; have : Nat.beq i i = true := Nat.beq_refl i; rw [this]; rfl
  · rw [if_neg h]
    cases hb : Nat.beq j i with
    | false => rfl
    | true => exact absurd (Nat.eq_of_beq_eq_true hb).symm h
structure TRes where
  val : TD
  box : Option (Nat × (Nat × List TC)) := none
  row : Option (Nat × TRow) := none
def eRes (c : Prop) (t : TRes) : Res := { cond := c, val := eD t.val, box := t.box.map fun p => (p.1, eB p.2), row := t.row.map fun p => (p.1, eR p.2) }
def TSt.app (σ : TSt) (r : TRes) : TSt :=
  { slots := σ.slots
    boxes := match r.box with | some p => p :: σ.boxes | none => σ.boxes
    rows := match r.row with | some p => p :: σ.rows | none => σ.rows }
def TSt.put (σ : TSt) (d : Option Nat) (x : TD) : TSt := match d with
  | some i => { σ with slots := (i, x) :: σ.slots }
  | none => σ
theorem eS_app (σ : TSt) (r : TRes) (c : Prop) : eS (σ.app r) = (eS σ).app (eRes c r) := by
  obtain ⟨v, bx, rw⟩ := r
  unfold eS TSt.app St.app eRes
  congr 1
  · cases bx with
    | none => rfl
    | some p =>
      funext i
      obtain ⟨j, x⟩ := p
      simp only [Option.map_some, lk_cons, upd]
      split <;> rfl
  · cases rw with
    | none => rfl
    | some p =>
      funext i
      obtain ⟨j, x⟩ := p
      simp only [Option.map_some, lk_cons, upd]
      split <;> rfl
theorem eS_put (σ : TSt) (d : Option Nat) (x : TD) : eS (σ.put d x) = (eS σ).put d (eD x) := by
  cases d with
  | none => rfl
  | some i =>
    unfold eS TSt.put St.put
    simp only
    congr 1
    funext j
    simp only [lk_cons, upd]
    by_cases hj : j = i
    · simp only [hj, if_true]
    · simp only [hj, if_false]

/-! constants and operands -/
def tval : Value → Option TC
  | .int k n => some (.d (.int k) n)
  | .bool b => some (.d .bool b)
  | .string s => some (.d .str s.data.toList)
  | .slice none 0 0 => some .nil
  | .func (.func f) ⟨[]⟩ ⟨[]⟩ => some (.fn f [])
  | .tuple ⟨[]⟩ => some .undef
  | _ => none
def tvals : List Value → Option (List TC)
  | [] => some []
  | v :: vs => match tval v, tvals vs with
    | some x, some xs => some (x :: xs)
    | _, _ => none
theorem tval_ok {v : Value} {x : TC} (h : tval v = some x) : eC x = valC v := by
  unfold tval at h
  split at h <;> simp only [Option.some.injEq, reduceCtorEq] at h <;> subst h <;> first | rfl | skip
theorem tvals_ok : ∀ {vs : List Value} {xs : List TC}, tvals vs = some xs → xs.map eC = vs.map valC
  | [], xs, h => by simp only [tvals, Option.some.injEq] at h; subst h; rfl
  | v :: vs, xs, h => by
    unfold tvals at h
    split at h
    case h_2 => cases h
    rename_i x ys hx hy
    simp only [Option.some.injEq] at h
    subst h
    rw [List.map_cons, List.map_cons, tval_ok hx, tvals_ok hy]
def tvalD : Value → Option TD
  | .agg cs => (tvals cs.toList).map fun xs => .one (.agg xs)
  | v => (tval v).map fun x => .one (.c x)
theorem tvalD_ok {v : Value} {x : TD} (h : tvalD v = some x) : eD x = ofVal v := by
  unfold tvalD at h
  split at h
  · obtain ⟨xs, h1, rfl⟩ := Option.map_eq_some_iff.1 h
    simp only [eD, e1, ofVal, tvals_ok h1]
  · rename_i v' hv
    obtain ⟨xs, h1, rfl⟩ := Option.map_eq_some_iff.1 h
    simp only [eD, e1, tval_ok h1]
    cases v <;> first | rfl | exact absurd rfl (hv _)
def topnd (σ : TSt) : Operand → Option TD
  | .tmp t => lk σ.slots t
  | .const v => tvalD v
  | .func f => some (.one (.c (.fn f [])))
  | .global g => none
theorem topnd_ok {σ : TSt} {x : Operand} {y : TD} (h : topnd σ x = some y) : opnd (eS σ) x = eD y := by
  cases x with
  | tmp t => unfold topnd at h; simp only [opnd, eS, h]
  | const v => exact (tvalD_ok h).symm
  | func f => simp only [topnd, Option.some.injEq] at h; subst h; rfl
  | global g => cases h
def tcells (e : Ty) (x : den e) : List TC := match e, x with
  | .int k, x => [.d (.int k) x]
  | .bool, x => [.d .bool x]
  | .str, x => [.d .str x]
  | .lst e, x => [.d (.lst e) x]
  | .prod a b, (p : den a × den b) => tcells a p.1 ++ tcells b p.2
theorem tcells_ok : ∀ (e : Ty) (x : den e), (tcells e x).map eC = (toDats e x).map C.d
  | .int _, _ => rfl
  | .bool, _ => rfl
  | .str, _ => rfl
  | .lst _, _ => rfl
  | .prod a b, p => by rw [toDats_prod, List.map_append, ← tcells_ok a, ← tcells_ok b, ← List.map_append]; rfl
/-- cells, as one datum -/
def unD (ty : Ty) : List TC → Option (den ty)
  | [.d ty' x] => if h : ty' = ty then some (h ▸ x) else none
  | _ => none
theorem unD_ok {ty : Ty} {cs : List TC} {x : den ty} (h : unD ty cs = some x) : cs = [.d ty x] := by
  unfold unD at h
  split at h
  · rename_i ty' y
    split at h
    · rename_i hty
      subst hty
      simp only [Option.some.injEq] at h
      subst h; rfl
    · cases h
  · cases h
def packT : (e : Ty) → List TC → Option (den e)
  | .prod a b, cs => match packT a (cs.take (width a)), packT b (cs.drop (width a)) with
    | some x, some y => some (x, y)
    | _, _ => none
  | .int k, cs => unD (.int k) cs
  | .bool, cs => unD .bool cs
  | .str, cs => unD .str cs
  | .lst e, cs => unD (.lst e) cs
theorem packT_ok : ∀ {e : Ty} {cs : List TC} {x : den e}, packT e cs = some x → cs.map eC = (toDats e x).map C.d
  | .prod a b, cs, x, h => by
    unfold packT at h
    split at h
    case h_2 => cases h
    rename_i y z hy hz
    obtain rfl : (y, z) = x := Option.some.inj h
    have h1 := packT_ok hy
    have h2 := packT_ok hz
    show List.map eC cs = List.map C.d (toDats a y ++ toDats b z)
    rw [List.map_append, ← h1, ← h2, ← List.map_append, List.take_append_drop]
  | .int k, cs, x, h => by rw [unD_ok h]; rfl
  | .bool, cs, x, h => by rw [unD_ok h]; rfl
  | .str, cs, x, h => by rw [unD_ok h]; rfl
  | .lst e, cs, x, h => by rw [unD_ok h]; rfl
end Go.Proofs.Ytabmdijfholakaa.AM

/- Typed data over the plain machine: what an operation does, as a partial function of data; and that the plain machine does so. -/
namespace Go.Proofs.Ytabmdijfholakaa.AM
open Go.RowKit
set_option linter.unusedVariables false
set_option linter.unusedSimpArgs false
variable {α : Type} {P : Program} {σ : TSt}

/-! the partial functions that operations are -/
def nth {β : Type} : List β → Nat → Option β
  | [], _ => none
  | x :: _, 0 => some x
  | _ :: l, n + 1 => nth l n
theorem nth_eq {β : Type} : ∀ (l : List β) (n : Nat), nth l n = l[n]?
  | [], n => by simp [nth]
  | _ :: _, 0 => rfl
  | _ :: l, n + 1 => by rw [nth, nth_eq l n]; simp
def idxL {β : Type} (l : List β) (i : Int) : Option β := if 0 ≤ i then nth l i.toNat else none
def sAt (s : List UInt8) (i : Int) : Option Int := (idxL s i).map fun c => (c.toNat : Int)
def subO {β : Type} (l : List β) (a b : Int) : Option (List β) := if 0 ≤ a ∧ a ≤ b ∧ b ≤ l.length then some ((l.drop a.toNat).take (b.toNat - a.toNat)) else none
def catO (s t : List UInt8) : Option (List UInt8) := if s.length + t.length ≤ 9223372036854775807 then some (s ++ t) else none
def appO {β : Type} (bytes : Nat) (xs ys : List β) : Option (List β) := if (xs.length + ys.length) * bytes ≤ 140737488355328 then some (xs ++ ys) else none
def letO {β : Type} (x : β) (f : β → Option α) : Option α := f x
def quoO (k : IntKind) (x y : Int) : Option Int := if y ≠ 0 then some (k.wrap (x.tdiv y)) else none
def remO (x y : Int) : Option Int := if y ≠ 0 then some (x.tmod y) else none
def shlO (k : IntKind) (x y : Int) : Option Int := if 0 ≤ y then some (k.wrap (x * 2 ^ (min y.toNat k.bits))) else none
def shrO (k : IntKind) (x y : Int) : Option Int := if 0 ≤ y then some (x.fdiv (2 ^ (min y.toNat k.bits))) else none
def andI (k : IntKind) (x y : Int) : Int := k.wrap (BitVec.ofInt k.bits x &&& BitVec.ofInt k.bits y).toNat
def orI (k : IntKind) (x y : Int) : Int := k.wrap (BitVec.ofInt k.bits x ||| BitVec.ofInt k.bits y).toNat
def xorI (k : IntKind) (x y : Int) : Int := k.wrap (BitVec.ofInt k.bits x ^^^ BitVec.ofInt k.bits y).toNat
def ltS (s t : List UInt8) : Bool := Op.bytesLess s t

def Sim (x : Option Res) (t : TRes) : Prop := ∃ c : Prop, c ∧ x = some (eRes c t)
theorem Sim.tr {x : Option Res} {t : TRes} (h : x = some (eRes True t)) : Sim x t := ⟨True, trivial, h⟩
theorem eS_box {i : Nat} {p : Nat × List TC} (h : lk σ.boxes i = some p) : (eS σ).box i = some (p.1, p.2.map eC) := by show (lk σ.boxes i).map eB = _; rw [h]; rfl
theorem eS_row {i : Nat} {r : TRow} (h : lk σ.rows i = some r) : (eS σ).row i = some (eR r) := by show (lk σ.rows i).map eR = _; rw [h]; rfl
theorem eS_noBox {i : Nat} (h : lk σ.boxes i = none) : (eS σ).box i = none := by show (lk σ.boxes i).map eB = _; rw [h]; rfl
theorem eS_noRow {i : Nat} (h : lk σ.rows i = none) : (eS σ).row i = none := by show (lk σ.rows i).map eR = _; rw [h]; rfl
theorem map_setAt {β γ : Type} (f : β → γ) (l : List β) (off : Nat) (xs : List β) : (setAt l off xs).map f = setAt (l.map f) off (xs.map f) := by
  unfold setAt; simp

/-! loads and stores -/
def loadT (P : Program) (t : TypeId) (cs : List TC) : Option TD := match aggD P t, tsz P t with
  | some true, some n => if n ≤ cs.length then some (.one (.agg (cs.take n))) else none
  | some false, _ => match cs with | c :: _ => some (.one (.c c)) | [] => none
  | _, _ => none
theorem loadT_ok {t : TypeId} {cs : List TC} {d : TD} (h : loadT P t cs = some d) : loadC P t (cs.map eC) = some (eD d) := by
  unfold loadT at h
  unfold loadC
  split at h
  · rename_i n h1 h2
    rw [h1, h2]
    split at h
    · rename_i hle
      simp only [Option.some.injEq] at h
      subst h
      simp only [List.length_map, hle, if_true, eD, e1, List.map_take]
    · cases h
  · rename_i h1
    rw [h1]
    split at h
    · simp only [Option.some.injEq] at h
      subst h; rfl
    · cases h
  · cases h
def tevLoad (P : Program) (t : TypeId) (p : TD) (σ : TSt) (k : TRes → Option α) : Option α := match p with
  | .one (.c (.box β off)) => match lk σ.boxes β with
    | some q => match loadT P t (q.2.drop off) with | some d => k { val := d } | none => none
    | none => none
  | .one (.c (.rp e off x)) => match loadT P t ((tcells e x).drop off) with | some d => k { val := d } | none => none
  | .one (.c (.wp tt g j off)) => match lk σ.rows tt with
    | some r => if r.gen = g then (nth r.xs j).bind fun x => match loadT P t ((tcells r.e x).drop off) with | some d => k { val := d } | none => none else none
    | none => none
  | _ => none
theorem getD_nth {e : Ty} {xs : List (den e)} {j : Nat} {x : den e} (h : nth xs j = some x) : (xs.map (toDats e)).getD j [] = toDats e x ∧ j < (xs.map (toDats e)).length := by
  rw [nth_eq] at h
  obtain ⟨h1, rfl⟩ := List.getElem?_eq_some_iff.1 h
  have : j < (xs.map (toDats e)).length := by rw [List.length_map]; exact h1
  exact ⟨by simp [List.getD, h1], this⟩
theorem tevLoad_ok {t : TypeId} {p : TD} {k : TRes → Option α} {r : α} (h : tevLoad P t p σ k = some r) :
    ∃ x, k x = some r ∧ Sim (evLoad P t (eD p) (eS σ).box (eS σ).row) x := by
  unfold tevLoad at h
  split at h
  · rename_i β off
    split at h
    case h_2 => cases h
    rename_i q hq
    split at h
    case h_2 => cases h
    rename_i d hd
    refine ⟨_, h, Sim.tr ?_⟩
    have := loadT_ok hd
    rw [List.map_drop] at this
    simp only [evLoad, eD, e1, eC, eS_box hq, this, Option.map_some]
    rfl
  · rename_i e off x
    split at h
    case h_2 => cases h
    rename_i d hd
    refine ⟨_, h, Sim.tr ?_⟩
    have := loadT_ok hd
    rw [List.map_drop, tcells_ok] at this
    simp only [evLoad, eD, e1, eC, List.map_drop, this, Option.map_some]
    rfl
  · rename_i tt g j off
    split at h
    case h_2 => cases h
    rename_i r' hr
    split at h
    case isFalse => cases h
    rename_i hg
    obtain ⟨x, hx, h⟩ := Option.bind_eq_some_iff.1 h
    split at h
    case h_2 => cases h
    rename_i d hd
    have := loadT_ok hd
    rw [List.map_drop, tcells_ok] at this
    obtain ⟨h1, h2⟩ := getD_nth hx
    refine ⟨_, h, _, h2, ?_⟩
    simp only [evLoad, eD, e1, eC, eS_row hr]
    have hg' : (eR r').gen = g := hg
    rw [if_pos hg']
    have h3 : (eR r').xs.getD j [] = toDats r'.e x := h1
    rw [h3, List.map_drop, this]
    rfl
  · cases h
def cellsT : TD1 → List TC
  | .c x => [x]
  | .agg cs => cs
def okTy : Ty → Bool
  | .prod _ _ => false
  | _ => true
def okT : TC → Bool
  | .d ty _ => okTy ty
  | .undef => false
  | .bad => false
  | _ => true
theorem okT_ok : ∀ {x : TC}, okT x = true → okC (eC x) = true
  | .d (.int _) _, _ => rfl
  | .d .bool _, _ => rfl
  | .d .str _, _ => rfl
  | .d (.lst _) _, _ => rfl
  | .nil, _ => rfl
  | .box _ _, _ => rfl
  | .row _ _, _ => rfl
  | .rp _ _ _, _ => rfl
  | .wp _ _ _ _, _ => rfl
  | .fn _ [], _ => rfl
  | .fn _ (_ :: _), _ => rfl
theorem cellsT_ok (x : TD1) : cellsOf1 (e1 x) = (cellsT x).map eC := by cases x <;> rfl
theorem allT_ok {cs : List TC} (h : cs.all okT = true) : (cs.map eC).all okC = true := by
  rw [List.all_map]
  refine List.all_eq_true.2 fun x hx => okT_ok (List.all_eq_true.1 h x hx)
theorem mapM_datOf : ∀ (l : List Dat), (l.map C.d).mapM datOf = some l
  | [] => rfl
  | x :: l => by rw [List.map_cons, List.mapM_cons, mapM_datOf l]; rfl
def setT (e : Ty) (x : den e) (off : Nat) (ys : List TC) : Option (den e) := packT e (setAt (tcells e x) off ys)
def tevStore (P : Program) (t : TypeId) (p x : TD) (σ : TSt) (k : TRes → Option α) : Option α := match x with
  | .one x => match tsz P t with
    | some n => if (cellsT x).length = n ∧ (cellsT x).all okT = true then
        match p with
        | .one (.c (.box β off)) => match lk σ.boxes β with
          | some q => if off + n ≤ q.2.length then k { val := .one (.c .undef), box := some (β, (q.1, setAt q.2 off (cellsT x))) } else none
          | none => none
        | .one (.c (.wp tt g j off)) => match lk σ.rows tt with
          | some r => if r.gen = g ∧ r.wr = true ∧ off + n ≤ width r.e then (nth r.xs j).bind fun y => match setT r.e y off (cellsT x) with
              | some y' => k { val := .one (.c .undef), row := some (tt, { r with xs := r.xs.set j y' }) }
              | none => none
            else none
          | none => none
        | _ => none
      else none
    | none => none
  | _ => none
theorem d_inj : ∀ {l m : List Dat}, l.map C.d = m.map C.d → l = m
  | [], [], _ => rfl
  | x :: l, y :: m, h => by
    simp only [List.map_cons, List.cons.injEq, C.d.injEq] at h
    rw [h.1, d_inj h.2]
  | [], _ :: _, h => by simp at h
  | _ :: _, [], h => by simp at h
theorem setT_ok {e : Ty} {x x' : den e} {off : Nat} {ys : List TC} (h : setT e x off ys = some x') (hl : off + ys.length ≤ width e) :
    ∃ ds, (ys.map eC).mapM datOf = some ds ∧ toDats e x' = setAt (toDats e x) off ds := by
  have h1 := packT_ok h
  rw [map_setAt, tcells_ok] at h1
  have hx := toDats_len e x
  have hx' := toDats_len e x'
  have h2 : ys.map eC = (((toDats e x').drop off).take ys.length).map C.d := by
    rw [List.map_take, List.map_drop, ← h1]
    unfold setAt
    have e0 : ((List.map C.d (toDats e x)).take off).length = off := by rw [List.length_take, List.length_map]; omega
    rw [List.append_assoc, List.drop_append, e0, Nat.sub_self, List.drop_zero, List.drop_eq_nil_of_le (by omega), List.nil_append, List.take_append_of_le_length (by rw [List.length_map]; omega), List.take_of_length_le (by rw [List.length_map]; omega)]
  refine ⟨_, by rw [h2]; exact mapM_datOf _, ?_⟩
  apply d_inj
  rw [← h1, map_setAt, h2]
theorem tevStore_ok {t : TypeId} {p x : TD} {k : TRes → Option α} {r : α} (h : tevStore P t p x σ k = some r) :
    ∃ y, k y = some r ∧ Sim (evStore P t (eD p) (eD x) (eS σ).box (eS σ).row) y := by
  unfold tevStore at h
  split at h
  case h_2 => cases h
  rename_i x1
  split at h
  case h_2 => cases h
  rename_i n hn
  split at h
  case isFalse => cases h
  rename_i hc
  obtain ⟨hc1, hc2⟩ := hc
  have hc1' : (cellsOf1 (e1 x1)).length = n := by rw [cellsT_ok, List.length_map]; exact hc1
  have hc2' : (cellsOf1 (e1 x1)).all okC = true := by rw [cellsT_ok]; exact allT_ok hc2
  split at h
  · rename_i β off
    split at h
    case h_2 => cases h
    rename_i q hq
    split at h
    case isFalse => cases h
    rename_i hle
    refine ⟨_, h, Sim.tr ?_⟩
    show evStore P t (.one (.c (.box β off))) (.one (e1 x1)) _ _ = _
    have e5 := cellsT_ok x1
    generalize e1 x1 = y1 at hc1' hc2' e5
    rw [e5] at hc2'
    simp only [evStore, hn, e5, hc1, hc2', and_self, if_true, eS_box hq, List.length_map, hle, eRes, Option.map_some, eB, map_setAt]
    rfl
  · rename_i tt g j off
    split at h
    case h_2 => cases h
    rename_i r' hr
    split at h
    case isFalse => cases h
    rename_i hg
    obtain ⟨hg1, hg2, hg3⟩ := hg
    obtain ⟨y, hy, h⟩ := Option.bind_eq_some_iff.1 h
    split at h
    case h_2 => cases h
    rename_i y' hy'
    obtain ⟨ds, k1, k2⟩ := setT_ok hy' (by omega)
    obtain ⟨h1, h2⟩ := getD_nth hy
    refine ⟨_, h, _, h2, ?_⟩
    rw [← cellsT_ok] at k1
    show evStore P t (.one (.c (.wp tt g j off))) (.one (e1 x1)) _ _ = _
    generalize e1 x1 = y1 at hc1' hc2' k1
    simp only [evStore, hn, hc1', hc2', and_self, if_true, eS_row hr, k1]
    have hg' : (eR r').gen = g ∧ (eR r').wr = true ∧ off + n ≤ (eR r').sz := ⟨hg1, hg2, hg3⟩
    rw [if_pos hg']
    have h3 : (eR r').xs.getD j [] = toDats r'.e y := h1
    rw [h3, ← k2]
    simp only [eRes, Option.map_some, eR, List.map_set]
    rfl
  · cases h

/-! new variables, fields, elements -/
def tevAlloc (P : Program) (dst : Option Nat) (t : TypeId) (σ : TSt) (k : TRes → Option α) : Option α := match dst, tzero P t with
  | some i, some z => match lk σ.boxes i, tvals z with
    | none, some cs => if z.all Value.oneCell' = true then k { val := .one (.c (.box i 0)), box := some (i, (t, cs)) } else none
    | _, _ => none
  | _, _ => none
theorem tevAlloc_ok {dst : Option Nat} {t : TypeId} {k : TRes → Option α} {r : α} (h : tevAlloc P dst t σ k = some r) :
    ∃ y, k y = some r ∧ Sim (evAlloc P dst t (eS σ).box) y := by
  unfold tevAlloc at h
  split at h
  case h_2 => cases h
  rename_i i z hz
  split at h
  case h_2 => cases h
  rename_i cs hb hcs
  split at h
  case isFalse => cases h
  rename_i ha
  refine ⟨_, h, Sim.tr ?_⟩
  simp only [evAlloc, hz, eS_noBox hb, ha, if_true, eRes, eD, e1, eC, Option.map_some, eB, tvals_ok hcs, Option.map_none]
def tevBox (dst : Option Nat) (t : TypeId) (x : TD) (σ : TSt) (k : TRes → Option α) : Option α := match dst, x with
  | some i, .one x => match lk σ.boxes i with
    | none => if (cellsT x).all okT = true then k { val := .one (.c (.box i 0)), box := some (i, (t, cellsT x)) } else none
    | some _ => none
  | _, _ => none
theorem tevBox_ok {dst : Option Nat} {t : TypeId} {x : TD} {k : TRes → Option α} {r : α} (h : tevBox dst t x σ k = some r) :
    ∃ y, k y = some r ∧ Sim (evBox dst t (eD x) (eS σ).box) y := by
  unfold tevBox at h
  split at h
  case h_2 => cases h
  rename_i i x1
  split at h
  case h_2 => cases h
  rename_i hb
  split at h
  case isFalse => cases h
  rename_i ha
  refine ⟨_, h, Sim.tr ?_⟩
  have ha' : (cellsOf1 (e1 x1)).all okC = true := by rw [cellsT_ok]; exact allT_ok ha
  show evBox (some i) t (.one (e1 x1)) _ = _
  have e5 := cellsT_ok x1
  generalize e1 x1 = y1 at ha' e5
  rw [e5] at ha'
  simp only [evBox, e5, eS_noBox hb, ha', if_true, eRes, Option.map_some, eB, Option.map_none]
  rfl
def tevFieldAddr (P : Program) (t : TypeId) (p : TD) (f : Nat) (k : TRes → Option α) : Option α := match fieldP P t f with
  | some (off, _) => match p with
    | .one (.c (.box β o)) => k { val := .one (.c (.box β (o + off))) }
    | .one (.c (.rp e o x)) => if o + off ≤ width e then k { val := .one (.c (.rp e (o + off) x)) } else none
    | .one (.c (.wp tt g j o)) => k { val := .one (.c (.wp tt g j (o + off))) }
    | _ => none
  | none => none
theorem tevFieldAddr_ok {t : TypeId} {p : TD} {f : Nat} {k : TRes → Option α} {r : α} (h : tevFieldAddr P t p f k = some r) :
    ∃ y, k y = some r ∧ Sim (evFieldAddr P t (eD p) f) y := by
  unfold tevFieldAddr at h
  split at h
  case h_2 => cases h
  rename_i off ft hf
  split at h
  · exact ⟨_, h, Sim.tr (by simp only [evFieldAddr, hf, eD, e1, eC]; rfl)⟩
  · rename_i e o x
    split at h
    case isFalse => cases h
    rename_i hle
    refine ⟨_, h, Sim.tr ?_⟩
    have : off ≤ ((toDats e x).drop o).length := by rw [List.length_drop, toDats_len]; omega
    simp only [evFieldAddr, hf, eD, e1, eC, this, if_true, List.drop_drop, eRes, Option.map_none]
  · exact ⟨_, h, Sim.tr (by simp only [evFieldAddr, hf, eD, e1, eC]; rfl)⟩
  · cases h
def tevField (P : Program) (t : TypeId) (x : TD) (f : Nat) (k : TRes → Option α) : Option α := match fieldP P t f, x with
  | some (off, ft), .one (.agg cs) => match aggD P ft, tsz P ft with
    | some true, some n => if off + n ≤ cs.length then k { val := .one (.agg ((cs.drop off).take n)) } else none
    | some false, _ => match nth cs off with
      | some c => k { val := .one (.c c) }
      | none => none
    | _, _ => none
  | _, _ => none
theorem tevField_ok {t : TypeId} {x : TD} {f : Nat} {k : TRes → Option α} {r : α} (h : tevField P t x f k = some r) :
    ∃ y, k y = some r ∧ Sim (evField P t (eD x) f) y := by
  unfold tevField at h
  split at h
  case h_2 => cases h
  rename_i off ft cs hf
  split at h
  · rename_i n h1 h2
    split at h
    case isFalse => cases h
    rename_i hle
    refine ⟨_, h, Sim.tr ?_⟩
    simp only [evField, hf, eD, e1, h1, h2, List.length_map, hle, if_true, eRes, List.map_take, List.map_drop, Option.map_none]
  · rename_i h1
    split at h
    case h_2 => cases h
    rename_i c hc
    refine ⟨_, h, Sim.tr ?_⟩
    rw [nth_eq] at hc
    simp only [evField, hf, eD, e1, h1, List.getElem?_map, hc, Option.map_some, eRes, Option.map_none]
  · cases h
def tevExtract (x : TD) (i : Nat) (k : TRes → Option α) : Option α := match x with
  | .tup xs => match nth xs i with
    | some y => k { val := .one y }
    | none => none
  | _ => none
theorem tevExtract_ok {x : TD} {i : Nat} {k : TRes → Option α} {r : α} (h : tevExtract x i k = some r) : ∃ y, k y = some r ∧ Sim (evExtract (eD x) i) y := by
  unfold tevExtract at h
  split at h
  case h_2 => cases h
  rename_i xs
  split at h
  case h_2 => cases h
  rename_i y hy
  rw [nth_eq] at hy
  exact ⟨_, h, Sim.tr (by simp only [evExtract, eD, List.getElem?_map, hy, Option.map_some, eRes, Option.map_none])⟩
/-- cells of one type, as a list -/
def unDs (ty : Ty) : List TC → Option (List (den ty))
  | [] => some []
  | c :: cs => match unD ty [c], unDs ty cs with
    | some x, some xs => some (x :: xs)
    | _, _ => none
theorem unDs_ok {ty : Ty} : ∀ {cs : List TC} {xs : List (den ty)}, unDs ty cs = some xs → cs = xs.map (TC.d ty)
  | [], xs, h => by simp only [unDs, Option.some.injEq] at h; subst h; rfl
  | c :: cs, xs, h => by
    unfold unDs at h
    split at h
    case h_2 => cases h
    rename_i x ys h1 h2
    simp only [Option.some.injEq] at h
    subst h
    have := unD_ok h1
    simp only [List.cons.injEq, and_true] at this
    rw [List.map_cons, ← unDs_ok h2, this]
def tevIndexArr (P : Program) (t : TypeId) (cs : List TC) (n : Int) (k : TRes → Option α) : Option α := match cs, P.underlying t with
  | .d e _ :: _, some (.array m el) => match tsz P el, aggD P el, unDs e cs with
    | some 1, some false, some xs => if m = xs.length then (idxL xs n).bind fun y => k { val := .one (.c (.d e y)) } else none
    | _, _, _ => none
  | _, _ => none
def tevIndex (P : Program) (t : TypeId) (x i : TD) (k : TRes → Option α) : Option α := match x, i with
  | .one (.c (.d .str s)), .one (.c (.d (.int _) n)) => match P.underlying t with
    | some .string => (sAt s n).bind fun c => k { val := .one (.c (.d (.int .u8) c)) }
    | _ => none
  | .one (.agg cs), .one (.c (.d (.int _) n)) => tevIndexArr P t cs n k
  | _, _ => none
theorem sAt_some {s : List UInt8} {n c : Int} (h : sAt s n = some c) : (0 ≤ n ∧ n < (ba s).size) ∧ c = byteAt (ba s) n := by
  unfold sAt idxL at h
  split at h
  case isFalse => cases h
  rename_i hn
  obtain ⟨b, hb, rfl⟩ := Option.map_eq_some_iff.1 h
  rw [nth_eq] at hb
  obtain ⟨h1, rfl⟩ := List.getElem?_eq_some_iff.1 hb
  have hsz : (ba s).size = s.length := by simp [ba, ByteArray.size]
  refine ⟨⟨hn, by omega⟩, ?_⟩
  unfold byteAt ba
  simp [List.getD, h1]
theorem idxL_some0 {β : Type} {l : List β} {n : Int} {y : β} (h : idxL l n = some y) : (0 ≤ n ∧ n < l.length) ∧ nth l n.toNat = some y := by
  unfold idxL at h
  split at h
  case isFalse => cases h
  rename_i hn
  have h' := h
  rw [nth_eq] at h'
  obtain ⟨h1, _⟩ := List.getElem?_eq_some_iff.1 h'
  exact ⟨⟨hn, by omega⟩, h⟩
theorem tevIndexArr_ok {t : TypeId} {cs : List TC} {ik : IntKind} {n : Int} {k : TRes → Option α} {r : α} (h : tevIndexArr P t cs n k = some r) : ∃ y, k y = some r ∧ Sim (evIndex P t (.one (.agg (cs.map eC))) (.one (.c (.d (.v (.int ik n)))))) y := by
  unfold tevIndexArr at h
  split at h
  case h_2 => cases h
  rename_i e x0 cs0 m el hu
  split at h
  case h_2 => cases h
  rename_i xs hs ha hxs
  split at h
  case isFalse => cases h
  rename_i hm
  obtain ⟨y, hy, h⟩ := Option.bind_eq_some_iff.1 h
  obtain ⟨h1, h2⟩ := idxL_some0 hy
  have hcs := unDs_ok hxs
  refine ⟨_, h, (0 ≤ n ∧ n < ((List.map eC (TC.d e x0 :: cs0)).length : Int) ∧ m = (List.map eC (TC.d e x0 :: cs0)).length), ?_, ?_⟩
  · rw [hcs, List.length_map, List.length_map]
    exact ⟨h1.1, h1.2, hm⟩
  · have e5 : (List.map eC (TC.d e x0 :: cs0)).getD n.toNat C.bad = eC (TC.d e y) := by
      rw [nth_eq] at h2
      rw [hcs]
      simp [List.getD, h2]
    simp only [evIndex, hu, hs, ha, e5, eRes, Option.map_none]
    rfl
theorem tevIndex_ok {t : TypeId} {x i : TD} {k : TRes → Option α} {r : α} (h : tevIndex P t x i k = some r) : ∃ y, k y = some r ∧ Sim (evIndex P t (eD x) (eD i)) y := by
  unfold tevIndex at h
  split at h
  case h_3 => cases h
  case h_2 =>
    rename_i cs ik n
    exact tevIndexArr_ok (ik := ik) h
  rename_i s k' n
  split at h
  case h_2 => cases h
  rename_i hu
  obtain ⟨c, hc, h⟩ := Option.bind_eq_some_iff.1 h
  obtain ⟨h1, rfl⟩ := sAt_some hc
  refine ⟨_, h, _, h1, ?_⟩
  simp only [eD, e1, eC, toDats, List.headD_cons, evIndex, hu]
  rfl
def tevIndexAddr (P : Program) (t : TypeId) (x i : TD) (σ : TSt) (k : TRes → Option α) : Option α := match P.underlying t with
  | some (.slice el) => match tsz P el, x, i with
    | some m, .one (.c (.d (.lst e) l)), .one (.c (.d (.int _) n)) => if m = width e then (idxL l n).bind fun y => k { val := .one (.c (.rp e 0 y)) } else none
    | some m, .one (.c (.row tt g)), .one (.c (.d (.int _) n)) => match lk σ.rows tt with
      | some r => if r.gen = g ∧ width r.e = m then (idxL r.xs n).bind fun _ => k { val := .one (.c (.wp tt g (Int.toNat n) 0)) } else none
      | none => none
    | _, _, _ => none
  | _ => none
theorem idxL_some {β : Type} {l : List β} {n : Int} {y : β} (h : idxL l n = some y) : (0 ≤ n ∧ n < l.length) ∧ nth l n.toNat = some y := by
  unfold idxL at h
  split at h
  case isFalse => cases h
  rename_i hn
  have h' := h
  rw [nth_eq] at h'
  obtain ⟨h1, _⟩ := List.getElem?_eq_some_iff.1 h'
  exact ⟨⟨hn, by omega⟩, h⟩
theorem tevIndexAddr_ok {t : TypeId} {x i : TD} {k : TRes → Option α} {r : α} (h : tevIndexAddr P t x i σ k = some r) : ∃ y, k y = some r ∧ Sim (evIndexAddr P t (eD x) (eD i) (eS σ).row) y := by
  unfold tevIndexAddr at h
  split at h
  case h_2 => cases h
  rename_i el hu
  split at h
  · rename_i m e l k' n hm
    split at h
    case isFalse => cases h
    rename_i hme
    subst hme
    obtain ⟨y, hy, h⟩ := Option.bind_eq_some_iff.1 h
    obtain ⟨h1, h2⟩ := idxL_some hy
    obtain ⟨h3, h4⟩ := getD_nth h2
    refine ⟨_, h, (@LE.le Int _ 0 n ∧ @LT.lt Int _ n ((l.map (toDats e)).length : Nat)), by rw [List.length_map]; exact h1, ?_⟩
    have h3' : ((l : List (den e)).map (toDats e)).getD (Int.toNat n) [] = toDats e y := h3
    simp only [eD, e1, eC, toDats, List.headD_cons, evIndexAddr, hu, hm, if_true, h3', eRes, Option.map_none, List.drop_zero]
  · rename_i m tt g k' n hm
    split at h
    case h_2 => cases h
    rename_i r' hr
    split at h
    case isFalse => cases h
    rename_i hg
    obtain ⟨y, hy, h⟩ := Option.bind_eq_some_iff.1 h
    obtain ⟨h1, h2⟩ := idxL_some hy
    refine ⟨_, h, (@LE.le Int _ 0 n ∧ @LT.lt Int _ n ((eR r').xs.length : Nat)), by show _ ∧ @LT.lt Int _ n ((r'.xs.map (toDats r'.e)).length : Nat); rw [List.length_map]; exact h1, ?_⟩
    have hg' : (eR r').gen = g ∧ (eR r').sz = m := hg
    simp only [eD, e1, eC, toDats, List.headD_cons, evIndexAddr, hu, hm, eS_row hr, hg', and_self, if_true, eRes, Option.map_none]
  · cases h
end Go.Proofs.Ytabmdijfholakaa.AM
