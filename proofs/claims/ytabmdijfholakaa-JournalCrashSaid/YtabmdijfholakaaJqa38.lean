/-
  'armadalaw04.JournalCrash': for every input it returns true, and writes nothing that was there. The walk is by hand; the step to the statement is the guide's frame at this function.
-/
import Derived.Test.YtabmdijfholakaaRows
import Derived.WalkKit
import Derived.ProofKit
import Derived.OpenShut
import Derived.ShutString
import Derived.ChangeOld
import Derived.Below
import Derived.Test.YtabmdijfholakaaJqa34
import Derived.Test.YtabmdijfholakaaJqa35
namespace Go.Proofs.Ytabmdijfholakaa.journalCrash
open Go.ChangeShapes Go.WideShapes Go.ChangeAt Go.RowKit
open Go.ChangeMaps (open_string shut_string)
set_option linter.unusedVariables false

theorem own : ownKnob Try.prog.godebug = none := by kernel_rfl
theorem laidOut : laidOutB Try.prog = true := by kernel_rfl

def IS0 := AM.IsTa (.prod (.lst .str) (.prod (.lst (.prod (.int .i64) .str)) (.prod (.int .i64) (.prod (.int .i64) (.prod .str (.prod (.int .i64) (.lst .bool)))))))
/-! ### the walk -/
theorem walk (w : World) (a0 : Value) (w0 : IS0 w a0) :
    Calls Try.prog 3 #[a0] w fun e w' => e = .returned (.bool true) ∧ Below w.heap.size w w' := by
  have hI : AM.Inv w := trivial
  obtain ⟨x0, o0, d0⟩ := w0
  have h := (AM.l4Crash_ok 700 AM.Inv AM.know_inv).1.2 x0 true (AM.l4Crash_true x0 o0)
  refine (h (AM.Old w) w #[a0] hI (fun b o h => h) ⟨d0, trivial⟩).mono ?_
  rintro e w' ⟨v, Pc, rfl, hb, _, _, hv⟩
  rw [AM.of_val hv]
  exact ⟨rfl, hb⟩

/-! ### the frame -/
set_option maxRecDepth 100000 in
theorem lifted (os : Os) (started : os.Started) (H : Type) (enc : TypeId × Value → H) :
    ReturnsInHanded {} Try.checked os 3 .any (Rows.journalCrashSpec.pre6 enc Try.prog Try.f3 Rows.journalCrashRow.domain false) (Rows.journalCrashSpec.post enc Try.prog Try.f3 false true false false) := by
  refine returnsInHanded_of_change (C := Try.checked) own started (by kernel_rfl) Try.func3
    (ChangeSpec.witness6 (enc := enc) (C := Try.checked) false ⟨#[], #[.agg #[.slice none 0 0, .slice none 0 0, .int .i64 0, .int .i64 0, .string ByteArray.empty, .int .i64 0, .slice none 0 0]], []⟩ 8 (by kernel_rfl) (by kernel_rfl) (by kernel_rfl) (by kernel_rfl)) ?_
  intro W base args ds gs before hval0 hW hcnd _
  have hval : ∀ (j : Nat) t v, Try.f3.params[j]? = some t → args[j]? = some v → Value.okWide Try.prog W .any base t v := hval0
  have hW' := hW
  obtain ⟨p, q, hA0, hV, rfl, hfz, hnd⟩ := hW
  have hA : DataW.TrodAll enc Try.prog W 0 (fun _ => true) true Try.f3.params.toList args.toList ds p := hA0
  rw [Try.params3] at hA hval
  obtain ⟨v0, vs0, d0, ds0, p0, q0, hargs, rfl, rfl, h0, r0⟩ := trodAll_cons hA
  obtain ⟨rfl, rfl, rfl⟩ := trodAll_nil r0
  obtain rfl : args = #[v0] := by cases args; simp_all
  obtain ⟨rfl, rfl⟩ := trodVars_none hV
  have k0 := h0
  have lt0 : ∀ x ∈ p0, x.block < W.heap.size := by obtain ⟨m, hm⟩ := k0; exact DataW.trod_lt m _ _ _ hm
  have w0 := AM.open_ta (.prod (.lst .str) (.prod (.lst (.prod (.int .i64) .str)) (.prod (.int .i64) (.prod (.int .i64) (.prod .str (.prod (.int .i64) (.lst .bool))))))) (by kernel_rfl) Try.underlying30 (hval 0 30 v0 rfl rfl) h0
  clear hA0 hval0
  refine (walk W v0 w0).mono fun e W' ⟨he, bel⟩ => ?_
  subst he
  exact ⟨_, rfl, _, _, _, [], _, [], hW', trodAll_mk1 (shut_bool Try.underlying4 _), (trodAll_cons_mk (Below.trod laidOut (by kernel_rfl) (of_decide_eq_true (by kernel_rfl)) k0 bel lt0) trodAll_mk0), rfl, bel.frame _, fun h => by cases h⟩

theorem over : Rows.journalCrashRow.holds Try.pinned (OpenSpec.ofChange Rows.journalCrashSpec) :=
  OpenClaim.holds_of_wide 3 Try.f3 rfl rfl rfl rfl rfl rfl rfl ⟨rfl, rfl, rfl, rfl, rfl⟩ rfl rfl rfl rfl rfl (by kernel_rfl) Try.func3 (by kernel_rfl)
    (of_decide_eq_true (by kernel_rfl)) (by unfold Func.isWrapper; first | (rw [if_pos (by decide +kernel)]; kernel_rfl) | (rw [if_neg (by decide +kernel)]; exact ⟨rfl, rfl⟩))
    (fun os started H enc _ => lifted os started H enc)

/-- the statement -/
theorem proved : Rows.JournalCrashSaid := over
#print axioms proved
end Go.Proofs.Ytabmdijfholakaa.journalCrash
