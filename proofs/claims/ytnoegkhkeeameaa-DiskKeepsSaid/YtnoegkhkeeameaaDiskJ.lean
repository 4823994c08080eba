/- The contract of disk's New. -/
import Derived.Test.YtnoegkhkeeameaaDiskE
import Derived.Laws.MakeOwn
import Derived.Deep.RegionLaw
namespace Go.Proofs.Ytnoegkhkeeameaa
open Go.RowKit
set_option linter.unusedVariables false
namespace DM
def zeroS : ByteArray := fillB ⟨#[]⟩
def newOk (n : Int) : Prop := 1 ≤ n ∧ n ≤ 512
instance (n : Int) : Decidable (newOk n) := by unfold newOk; infer_instance
def newD (n : Int) : Dk := if newOk n then ⟨List.replicate n.toNat zeroS, []⟩ else ⟨[], []⟩
def rowN (n q : Nat) : List ByteArray := List.replicate q zeroS ++ List.replicate (n - q) ⟨#[]⟩
theorem rowN_length (n q : Nat) (h : q ≤ n) : (rowN n q).length = n := by unfold rowN; simp; omega
theorem rowN_set (n q : Nat) (h : q < n) : (rowN n q).set q zeroS = rowN n (q + 1) := by
  unfold rowN
  rw [List.set_append_right _ _ (by simp), List.length_replicate, Nat.sub_self, show n - q = (n - (q + 1)) + 1 from by omega, List.replicate_succ, List.set_cons_zero, List.replicate_succ', List.append_assoc]
  rfl
theorem rowN_all (n : Nat) : rowN n n = List.replicate n zeroS := by unfold rowN; simp
end DM
namespace DiskW
set_option maxHeartbeats 1600000 in
set_option maxRecDepth 100000 in
theorem new_no (n : Int) (w : World) (h : ¬ DM.newOk n) :
    Calls Try.prog 35 #[.int .i64 n] w fun e w' => e = .returned (.tuple #[.agg #[.slice none 0 0, .slice none 0 0], .bool false]) ∧ Below w.heap.size w w' := by
  have hc : n < 1 ∨ (¬ n < 1 ∧ 512 < n) := by unfold DM.newOk at h; omega
  clear h
  rcases hc with h | ⟨h, h2⟩
  all_goals
    go_enter Try.func35, Try.ntmps35
    go_wp2_with fail
    refine bodyPost_ret (results_dke rfl _ _ w.heap.size none none 0 0 0 0 rfl (by go_simp) (by go_simp)) rfl ⟨rfl, ?_⟩
    repeat' first | (with_reducible exact Below.refl _ _) | (with_reducible refine Below.alloc ?_ ?_ _) | (with_reducible refine Below.setCell ?_ ?_ _) | omega | (simp <;> omega)
set_option maxHeartbeats 1600000 in
set_option maxRecDepth 100000 in
theorem new_yes (n : Nat) (w : World) (h1 : 1 ≤ n) (h2 : n ≤ 512) :
    Calls Try.prog 35 #[.int .i64 (n : Int)] w fun e w' => ∃ g, e = .returned (.tuple #[.agg #[.slice (some ⟨g, 0, none⟩) n n, .slice none 0 0], .bool true]) ∧ DM.DV w' (.slice (some ⟨g, 0, none⟩) n n) (.slice none 0 0) ⟨List.replicate n DM.zeroS, []⟩ ∧ Below w.heap.size w w' := by
  obtain ⟨i0, hi, hz0, hz1, hz2⟩ := info_parts RecW.info_str
  obtain ⟨w1, hmk, hown, hgrow⟩ := run_makeSlice_full (P := Try.prog) (w.alloc (.cells #[.slice none 0 0, .slice none 0 0] 25)) w.heap.size 22 9 i0 (.string ⟨#[]⟩) 1 Try.underlying22 hi hz0 hz1 .i64 .i64 n (by omega) (by rw [hz2]; omega) (by unfold maxLen; omega) (by simp)
  have B1 : Below w.heap.size w w1 := ((Below.refl _ _).alloc (Nat.le_refl _) _).grown hgrow (by simp) (fun k hk => by cases hk)
  have hrow : (madeCells (Value.string ⟨#[]⟩).cells (n * 1)).toList = (DM.rowN n 0).map Value.string := by
    rw [Nat.mul_one, show (Value.string ⟨#[]⟩).cells = #[.string ⟨#[]⟩] from rfl, toList_madeCells_one]
    simp [DM.rowN]
  rw [hrow] at hown
  have R1 : DM.Var w1 w.heap.size (.slice none 0 0) (.slice none 0 0) := (DM.Var.made w _ _ _).set ((Below.refl _ _).grown hgrow (Nat.le_refl _) (fun k hk => by cases hk)) (by simp)
  have HO := Lib.hid hown
  have HR := Lib.hid R1
  have HB := Lib.hid B1
  have z1 : w.heap.size + 1 < w1.heap.size := by
    have := (hown.lt (w.heap.size + 1) (by simp [Value.ownBlock])).2
    exact this
  clear hown R1 B1 hgrow hrow
  have CF : Hid (∀ w, Calls Try.prog 58 #[.string ⟨#[]⟩] w fun e w' => e = .returned (.string DM.zeroS) ∧ Below w.heap.size w w') := Lib.hid (fun w => fill_any ⟨#[]⟩ w (by decide))
  have hn1 : ¬ (n : Int) < 1 := by omega
  have hn2 : ¬ (512 : Int) < (n : Int) := by omega
  simp at hmk
  go_enter Try.func35, Try.ntmps35
  go_wp2_with fail
  have HO1 : Hid (w1.ownsRow w.heap.size 9 1 (.slice (some ⟨w.heap.size + 1, 0, none⟩) n n) n ((DM.rowN n 0).map Value.string)) := Lib.hid (by have := HO.out; simpa using this)
  have HA := Lib.hid (DM.Var.made w1 (.slice (some ⟨w.heap.size + 1, 0, none⟩) n n) (.slice none 0 0) 25)
  have BA : Below w1.heap.size w1 (w1.alloc (.cells #[.slice (some ⟨w.heap.size + 1, 0, none⟩) n n, .slice none 0 0] 25)) := (Below.refl _ _).alloc (Nat.le_refl _) _
  have HBA := Lib.hid BA; clear BA hmk HO
  go_loopw [19] (fun i wr => ∃ q : Nat, q ≤ n ∧ i = .int .i64 q ∧ wr.ownsRow w.heap.size 9 1 (.slice (some ⟨w.heap.size + 1, 0, none⟩) n n) n ((DM.rowN n q).map Value.string) ∧ DM.Var wr w1.heap.size (.slice (some ⟨w.heap.size + 1, 0, none⟩) n n) (.slice none 0 0) ∧ DM.Var wr w.heap.size (.slice none 0 0) (.slice none 0 0) ∧ Below w.heap.size w wr) (fun i _ => n - (intOf i).toNat)
  case atStart => exact ⟨0, Nat.zero_le _, rfl, HO1.out.alloc _, HA.out, HR.out.below HBA.out, HB.out.trans (HBA.out.mono HB.out.size)⟩
  case round =>
    clear HO1 HA HR HBA HB
    obtain ⟨q, hq, rfl, O, VA, VB, BU⟩ := hrel
    have HO := Lib.hid O
    have HVA := Lib.hid VA
    have HVB := Lib.hid VB
    have c0 := VA.c0
    have l0 := VA.lt
    clear O VA VB
    by_cases hqn : q < n
    · have hqi : (q : Int) < (n : Int) := by omega
      have hq0 : (0 : Int) ≤ (q : Int) := by omega
      go_wp2_with fail
      go_region_law (first
        | (go_simp; go_at_call 58; refine (CF.out _).mono ?_; rintro e w2 ⟨rfl, B2⟩; have BB : Below wr.heap.size wr w2 := (Below.refl _ _).drew.trans B2; have HO2 := Lib.hid (Lib.owns_below HO.out BB); have HVA2 := Lib.hid (HVA.out.below BB); have HVB2 := Lib.hid (HVB.out.below BB); have BU2 : Below w.heap.size w w2 := BU.trans (BB.mono BU.size); have f2 : w2.frozen? ⟨w.heap.size + 1, q, none⟩ = false := HO2.out.frozenAt q; have x2 : w2.cell? ⟨w.heap.size + 1, q, none⟩ = some (.string ((DM.rowN n q)[q]'(by rw [DM.rowN_length n q hq]; exact hqn))) := (by rw [HO2.out.cellAt q (by omega)]; simp [DM.rowN_length n q hq, hqn]); have c20 := HVA2.out.c0; dsimp only))
      all_goals
        go_wp2_with fail
        have F : DM.But (· = w.heap.size + 1) w2 (w2.setCell ⟨w.heap.size + 1, q, none⟩ (.string DM.zeroS)) := (DM.But.refl (· = w.heap.size + 1) _).setCell (p := ⟨w.heap.size + 1, q, none⟩) (Or.inl rfl) _
        have HF := Lib.hid F; clear F
        go_roundw
        case rel =>
          refine ⟨q + 1, by omega, by go_num, ?_, HF.out.var HVA2.out (by omega), HF.out.var HVB2.out (by omega), BU2.setCell (by simp) _⟩
          have := (HO2.out.stored q (.string DM.zeroS)).1
          rw [← List.map_set, DM.rowN_set n q hqn] at this
          exact this
        case measure => simp [intOf]; omega
    · have hqq : q = n := by omega
      subst hqq
      have c1 := HVA.out.c1
      have r0 := HVB.out.c0
      have r1 := HVB.out.c1
      have g0 := HVB.out.f0
      have g1 := HVB.out.f1
      go_wp2_with fail
      refine bodyPost_ret (results_dke rfl _ _ w.heap.size (some ⟨w.heap.size + 1, 0, none⟩) none q q 0 0 rfl (by go_simp) (by go_simp)) rfl ⟨w.heap.size + 1, rfl, ⟨?_, DM.WV.nil _ _ _⟩, (BU.setCell (by simp) _).setCell (by simp) _⟩
      have F : DM.But (· = w.heap.size) wr ((wr.setCell ⟨w.heap.size, 0, none⟩ (.slice (some ⟨w.heap.size + 1, 0, none⟩) q q)).setCell ⟨w.heap.size, 1, none⟩ (.slice none 0 0)) := DM.set2
      have := F.owns HO.out (fun g hg h => by simp [Value.ownBlock] at hg; omega)
      rw [DM.rowN_all] at this
      exact RM.SV.of_owns (by simp) this
end DiskW
end Go.Proofs.Ytnoegkhkeeameaa
