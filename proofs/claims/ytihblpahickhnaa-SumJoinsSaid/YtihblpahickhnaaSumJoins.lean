/-
  THE SHELL OF A PROOF OF 'Rows.SumJoinsSaid' ('armada/armadalaw02.SumJoins'), WRITTEN BY PROGRAM (proof-skeleton.mjs) off the guide's own print for that function. Not trusted: Lean checks it.
  YOURS ARE THE HOLES MARKED 'HOLE' (each bears 'sorry'). ALL ELSE IS THE GUIDE's TEMPLATE (howto/template/XProofs.lean) at this function's number and types: leave it.
-/
import Derived.Test.YtihblpahickhnaaRows
import Derived.WalkKit
import Derived.ProofKit
import Derived.OpenShut
import Derived.ShutString
import Derived.Test.YtihblpahickhnaaSumWalks
namespace Go.Proofs.Ytihblpahickhnaa.sumJoins
open Go.ChangeShapes Go.WideShapes Go.ChangeAt Go.RowKit
open Go.ChangeMaps (open_string shut_string)
set_option linter.unusedVariables false      -- a walk need not use every 'w<i>' (that an integer argument fits its kind)

theorem own : ownKnob Try.prog.godebug = none := by kernel_rfl

/-! ### STEP 1: THE WALK: the Go text returns true. 'Grown w w'': the world has at most new blocks (Derived/RowKit3.lean). Part the cases AHEAD of 'go_enter' where a test parts the walk; take each callee by a contract of your own. -/
theorem walk (a0 : ByteArray) (a1 : ByteArray) (a2 : ByteArray) (w0 : a0.size ≤ maxLen) (w1 : a1.size ≤ maxLen) (w2 : a2.size ≤ maxLen) (w : World) :
    Calls Try.prog 13 #[.string a0, .string a1, .string a2] w fun e w' => e = .returned (.bool true) ∧ Grown w w' := by
  unfold maxLen at w0 w1 w2
  by_cases g : a0.size ≤ 2000 ∧ a1.size ≤ 2000 ∧ a2.size ≤ 2000
  · obtain ⟨g0, g1, g2⟩ := g
    have l0 := SM.roll_lt 1 a0.data.toList
    have l1 := SM.roll_lt 1 a1.data.toList
    have l2 := SM.roll_lt 1 a2.data.toList
    have l3 := SM.roll_lt 1 (a0.data.toList ++ a1.data.toList)
    have l4 := SM.roll_lt 1 (a1.data.toList ++ a2.data.toList)
    have E1 : Hid (SM.joinF (SM.rollF 1 a0.data.toList) (SM.rollF 1 a1.data.toList) a1.size = SM.rollF 1 (a0.data.toList ++ a1.data.toList)) := by
      have := SM.join_append a0.data.toList a1.data.toList (by simp; omega)
      apply Lib.hid; rw [← this]; simp
    have E2 : Hid (SM.joinF (SM.rollF 1 (a0.data.toList ++ a1.data.toList)) (SM.rollF 1 a2.data.toList) a2.size = SM.rollF 1 (a0.data.toList ++ (a1.data.toList ++ a2.data.toList))) := by
      have := SM.join_append (a0.data.toList ++ a1.data.toList) a2.data.toList (by simp; omega)
      apply Lib.hid; rw [← List.append_assoc, ← this]; simp
    have E3 : Hid (SM.joinF (SM.rollF 1 a1.data.toList) (SM.rollF 1 a2.data.toList) a2.size = SM.rollF 1 (a1.data.toList ++ a2.data.toList)) := by
      have := SM.join_append a1.data.toList a2.data.toList (by simp; omega)
      apply Lib.hid; rw [← this]; simp
    have E4 : Hid (SM.joinF (SM.rollF 1 a0.data.toList) (SM.rollF 1 (a1.data.toList ++ a2.data.toList)) (a1.size + a2.size) = SM.rollF 1 (a0.data.toList ++ (a1.data.toList ++ a2.data.toList))) := by
      have := SM.join_append a0.data.toList (a1.data.toList ++ a2.data.toList) (by simp; omega)
      apply Lib.hid; rw [← this]; simp
    have E5 : Hid (SM.rollF 1 (a0 ++ a1 ++ a2).data.toList = SM.rollF 1 (a0.data.toList ++ (a1.data.toList ++ a2.data.toList))) := by
      apply Lib.hid; simp
    have E6 : Hid (SM.joinF (SM.rollF 1 a0.data.toList) 1 0 = SM.rollF 1 a0.data.toList) := Lib.hid (SM.join_nil _)
    have E7 : Hid (SM.joinF 1 (SM.rollF 1 a1.data.toList) a1.size = SM.rollF 1 a1.data.toList) := by
      have := SM.join_one a1.data.toList (by simp; omega)
      apply Lib.hid; conv => rhs; rw [← this]
      simp
    go_enter Try.func13, Try.ntmps13
    go_wp2_with fail
    refine (SumW.of_any _ _ (by unfold maxLen; omega)).mono ?_; rintro e w' ⟨rfl, rfl⟩
    go_wp2_with fail
    refine (SumW.of_any _ _ (by unfold maxLen; omega)).mono ?_; rintro e w' ⟨rfl, rfl⟩
    go_wp2_with fail
    refine (SumW.of_any _ _ (by unfold maxLen; omega)).mono ?_; rintro e w' ⟨rfl, rfl⟩
    go_wp2_with fail
    refine (SumW.join_any _ _ _ _ (by omega) (by omega) (by omega)).mono ?_; rintro e w' ⟨rfl, rfl⟩
    rw [E1.out]
    go_wp2_with fail
    refine (SumW.join_any _ _ _ _ (by omega) (by omega) (by omega)).mono ?_; rintro e w' ⟨rfl, rfl⟩
    rw [E2.out]
    go_wp2_with fail
    refine (SumW.join_any _ _ _ _ (by omega) (by omega) (by omega)).mono ?_; rintro e w' ⟨rfl, rfl⟩
    rw [E3.out]
    go_wp2_with fail
    refine (SumW.join_any _ _ _ _ (by omega) (by omega) (by omega)).mono ?_; rintro e w' ⟨rfl, rfl⟩
    rw [E4.out]
    go_wp2_with fail
    refine (SumW.of_any _ _ (by rw [ByteArray.size_append, ByteArray.size_append]; unfold maxLen; omega)).mono ?_; rintro e w' ⟨rfl, rfl⟩
    rw [E5.out]
    go_wp2_with fail
    refine (SumW.join_any _ _ _ _ (by omega) (by omega) (by omega)).mono ?_; rintro e w' ⟨rfl, rfl⟩
    rw [E6.out]
    go_wp2_with fail
    refine (SumW.join_any _ _ _ _ (by omega) (by omega) (by omega)).mono ?_; rintro e w' ⟨rfl, rfl⟩
    rw [E7.out]
    go_wp2_with fail
    refine (SumW.live_any _).mono ?_; rintro e w' ⟨rfl, rfl⟩
    go_wp2_with fail
    go_ret
    exact ⟨rfl, Grown.refl _⟩
  · by_cases g0 : a0.size ≤ 2000
    · by_cases g1 : a1.size ≤ 2000
      · have g2 : 2000 < a2.size := by omega
        clear g
        go_enter Try.func13, Try.ntmps13
        go_wp2_with fail
        refine (SumW.live_any _).mono ?_; rintro e w' ⟨rfl, rfl⟩
        go_wp2_with fail
        go_ret
        exact ⟨rfl, Grown.refl _⟩
      · clear g
        go_enter Try.func13, Try.ntmps13
        go_wp2_with fail
        refine (SumW.live_any _).mono ?_; rintro e w' ⟨rfl, rfl⟩
        go_wp2_with fail
        go_ret
        exact ⟨rfl, Grown.refl _⟩
    · clear g
      go_enter Try.func13, Try.ntmps13
      go_wp2_with fail
      refine (SumW.live_any _).mono ?_; rintro e w' ⟨rfl, rfl⟩
      go_wp2_with fail
      go_ret
      exact ⟨rfl, Grown.refl _⟩

/-! ### THE ROW's STEP: WRITTEN OUT: LEAVE IT -/
set_option maxRecDepth 100000 in
theorem lifted (os : Os) (started : os.Started) (H : Type) (enc : TypeId × Value → H) :
    ReturnsInHanded {} Try.checked os 13 .any (Rows.sumJoinsSpec.pre6 enc Try.prog Try.f13 Rows.sumJoinsRow.domain false) (Rows.sumJoinsSpec.post enc Try.prog Try.f13 false true false false) := by
  refine returnsInHanded_of_change (C := Try.checked) own started (by kernel_rfl) Try.func13
    (ChangeSpec.witness6 (enc := enc) (C := Try.checked) false ⟨#[], #[.string ByteArray.empty, .string ByteArray.empty, .string ByteArray.empty], []⟩ 8 (by kernel_rfl) (by kernel_rfl) (by kernel_rfl) (by kernel_rfl)) ?_
  intro W base args ds gs before hval0 hW hcnd _
  have hval : ∀ (j : Nat) t v, Try.f13.params[j]? = some t → args[j]? = some v → Value.okWide Try.prog W .any base t v := hval0
  have hW' := hW
  obtain ⟨p, q, hA0, hV, rfl, hfz, hnd⟩ := hW
  have hA : DataW.TrodAll enc Try.prog W 0 (fun _ => true) true Try.f13.params.toList args.toList ds p := hA0
  rw [Try.params13] at hA hval
  obtain ⟨v0, vs0, d0, ds0, p0, q0, hargs, rfl, rfl, h0, r0⟩ := trodAll_cons hA
  obtain ⟨v1, vs1, d1, ds1, p1, q1, rfl, rfl, rfl, h1, r1⟩ := trodAll_cons r0
  obtain ⟨v2, vs2, d2, ds2, p2, q2, rfl, rfl, rfl, h2, r2⟩ := trodAll_cons r1
  obtain ⟨rfl, rfl, rfl⟩ := trodAll_nil r2
  obtain rfl : args = #[v0, v1, v2] := by cases args; simp_all
  obtain ⟨rfl, rfl⟩ := trodVars_none hV
  obtain ⟨a0, rfl, rfl, rfl, w0⟩ := open_string Try.underlying9 (hval 0 9 v0 rfl rfl) h0
  obtain ⟨a1, rfl, rfl, rfl, w1⟩ := open_string Try.underlying9 (hval 1 9 v1 rfl rfl) h1
  obtain ⟨a2, rfl, rfl, rfl, w2⟩ := open_string Try.underlying9 (hval 2 9 v2 rfl rfl) h2
  clear hA0 hval0
  simp only [List.append_nil] at hW'
  refine (walk a0 a1 a2 w0 w1 w2 W).mono fun e W' ⟨he, hg⟩ => ?_
  subst he
  exact ⟨_, rfl, post_of_same (pa := []) (pv := []) hW' (fun _ _ _ => (trodAll_cons_mk (shut_bool Try.underlying4 _) trodAll_mk0)) (fun sp _ => (trodAll_cons_mk (shut_string Try.underlying9 w0) (trodAll_cons_mk (shut_string Try.underlying9 w1) (trodAll_cons_mk (shut_string Try.underlying9 w2) trodAll_mk0)))) (fun _ _ => rfl) rfl
    (hg.frame _) hg.2.1 (ok_one (by kernel_rfl) rfl (okWide_bool_mk Try.underlying4 _))⟩

theorem over : Rows.sumJoinsRow.holds Try.pinned (OpenSpec.ofChange Rows.sumJoinsSpec) :=
  OpenClaim.holds_of_wide 13 Try.f13 rfl rfl rfl rfl rfl rfl rfl ⟨rfl, rfl, rfl, rfl, rfl⟩ rfl rfl rfl rfl rfl (by kernel_rfl) Try.func13 (by kernel_rfl)
    (of_decide_eq_true (by kernel_rfl)) (by unfold Func.isWrapper; first | (rw [if_pos (by decide +kernel)]; kernel_rfl) | (rw [if_neg (by decide +kernel)]; exact ⟨rfl, rfl⟩))
    (fun os started H enc _ => lifted os started H enc)

/-- ████ THE STATEMENT ████ -/
theorem proved : Rows.SumJoinsSaid :=
  over
#print axioms proved
end Go.Proofs.Ytihblpahickhnaa.sumJoins
