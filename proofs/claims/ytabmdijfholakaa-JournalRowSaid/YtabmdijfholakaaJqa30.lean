/- The contracts of the makers of heads. -/
import Derived.Test.YtabmdijfholakaaJqa29
import Derived.Test.YtabmdijfholakaaJqa8
namespace Go.Proofs.Ytabmdijfholakaa
open Go.RowKit
namespace RM
def makeV (k g q : Int) (s : ByteArray) : Value := if may k g q (s.size : Int) (SM.rollF 1 s.data.toList) then hd k g q (s.size : Int) (SM.rollF 1 s.data.toList) else hd 0 0 0 0 0
theorem makeV_yes (k g q : Int) (s : ByteArray) (h : may k g q (s.size : Int) (SM.rollF 1 s.data.toList)) : makeV k g q s = hd k g q (s.size : Int) (SM.rollF 1 s.data.toList) := if_pos h
theorem makeV_no (k g q : Int) (s : ByteArray) (h : ¬ may k g q (s.size : Int) (SM.rollF 1 s.data.toList)) : makeV k g q s = hd 0 0 0 0 0 := if_neg h
end RM
namespace RecW
set_option maxHeartbeats 3200000 in
set_option maxRecDepth 100000 in
theorem make_any (k g q : Int) (s : ByteArray) (w : World) (hs : s.size ≤ maxLen) :
    Calls Try.prog 52 #[.int .i64 k, .int .i64 g, .int .i64 q, .string s] w fun e w' => e = .returned (.tuple #[RM.makeV k g q s, .bool (decide (RM.may k g q (s.size : Int) (SM.rollF 1 s.data.toList)))]) ∧ Below w.heap.size w w' := by
  have hbm : -9223372036854775808 ≤ SM.rollF 1 s.data.toList ∧ SM.rollF 1 s.data.toList ≤ 9223372036854775807 := by have := SM.roll_lt 1 s.data.toList; omega
  by_cases hm : RM.may k g q (s.size : Int) (SM.rollF 1 s.data.toList)
  · have hd : decide (RM.may k g q (s.size : Int) (SM.rollF 1 s.data.toList)) = true := decide_eq_true hm
    rw [RM.makeV_yes k g q s hm, hd]
    clear hm
    go_enter Try.func52, Try.ntmps52
    go_wp2_with fail
    refine (SumW.of_any _ _ hs).mono ?_; rintro e w' ⟨rfl, rfl⟩
    go_wp2_with fail
    refine (may_any _ _ _ _ _ _ hbm).mono ?_; rintro e w2 ⟨rfl, hb2⟩
    have hB2 : Below w.heap.size w w2 := Below.trans (by repeat' first | (with_reducible exact Below.refl _ _) | (with_reducible refine Lib.below_drewN ?_ _) | (with_reducible refine Below.drew ?_) | (with_reducible refine Below.alloc ?_ ?_ _) | (with_reducible refine Below.setCell ?_ ?_ _) | (simp <;> omega)) (hb2.mono (by simp <;> omega))
    have q0 : w2.cell? ⟨w.heap.size, 0, none⟩ = some (.int .i64 0) := (hb2.cell (by first | omega | (simp <;> omega))).trans (by go_simp)
    have f0 : w2.frozen? ⟨w.heap.size, 0, none⟩ = false := (hb2.frozen (by first | omega | (simp <;> omega))).trans (by go_simp)
    have v0 : w2.cell? ⟨w.heap.size + 1, 0, none⟩ = some (.int .i64 (k)) := (hb2.cell (by first | omega | (simp <;> omega))).trans (by go_simp)
    have q1 : w2.cell? ⟨w.heap.size, 1, none⟩ = some (.int .i64 0) := (hb2.cell (by first | omega | (simp <;> omega))).trans (by go_simp)
    have f1 : w2.frozen? ⟨w.heap.size, 1, none⟩ = false := (hb2.frozen (by first | omega | (simp <;> omega))).trans (by go_simp)
    have v1 : w2.cell? ⟨w.heap.size + 1, 1, none⟩ = some (.int .i64 (g)) := (hb2.cell (by first | omega | (simp <;> omega))).trans (by go_simp)
    have q2 : w2.cell? ⟨w.heap.size, 2, none⟩ = some (.int .i64 0) := (hb2.cell (by first | omega | (simp <;> omega))).trans (by go_simp)
    have f2 : w2.frozen? ⟨w.heap.size, 2, none⟩ = false := (hb2.frozen (by first | omega | (simp <;> omega))).trans (by go_simp)
    have v2 : w2.cell? ⟨w.heap.size + 1, 2, none⟩ = some (.int .i64 (q)) := (hb2.cell (by first | omega | (simp <;> omega))).trans (by go_simp)
    have q3 : w2.cell? ⟨w.heap.size, 3, none⟩ = some (.int .i64 0) := (hb2.cell (by first | omega | (simp <;> omega))).trans (by go_simp)
    have f3 : w2.frozen? ⟨w.heap.size, 3, none⟩ = false := (hb2.frozen (by first | omega | (simp <;> omega))).trans (by go_simp)
    have v3 : w2.cell? ⟨w.heap.size + 1, 3, none⟩ = some (.int .i64 ((s.size : Int))) := (hb2.cell (by first | omega | (simp <;> omega))).trans (by go_simp)
    have q4 : w2.cell? ⟨w.heap.size, 4, none⟩ = some (.int .i64 0) := (hb2.cell (by first | omega | (simp <;> omega))).trans (by go_simp)
    have f4 : w2.frozen? ⟨w.heap.size, 4, none⟩ = false := (hb2.frozen (by first | omega | (simp <;> omega))).trans (by go_simp)
    have v4 : w2.cell? ⟨w.heap.size + 1, 4, none⟩ = some (.int .i64 (SM.rollF 1 s.data.toList)) := (hb2.cell (by first | omega | (simp <;> omega))).trans (by go_simp)
    clear hb2
    go_wp2_with fail
    refine bodyPost_ret (results_hd rfl _ _ w.heap.size (k) (g) (q) ((s.size : Int)) (SM.rollF 1 s.data.toList) rfl (by go_simp) (by go_simp) (by go_simp) (by go_simp) (by go_simp)) rfl ?_
    exact ⟨rfl, by repeat' first | (with_reducible exact hB2) | (with_reducible refine Below.setCell ?_ ?_ _) | omega | (simp <;> omega)⟩
  · have hd : decide (RM.may k g q (s.size : Int) (SM.rollF 1 s.data.toList)) = false := decide_eq_false hm
    rw [RM.makeV_no k g q s hm, hd]
    clear hm
    go_enter Try.func52, Try.ntmps52
    go_wp2_with fail
    refine (SumW.of_any _ _ hs).mono ?_; rintro e w' ⟨rfl, rfl⟩
    go_wp2_with fail
    refine (may_any _ _ _ _ _ _ hbm).mono ?_; rintro e w2 ⟨rfl, hb2⟩
    have hB2 : Below w.heap.size w w2 := Below.trans (by repeat' first | (with_reducible exact Below.refl _ _) | (with_reducible refine Lib.below_drewN ?_ _) | (with_reducible refine Below.drew ?_) | (with_reducible refine Below.alloc ?_ ?_ _) | (with_reducible refine Below.setCell ?_ ?_ _) | (simp <;> omega)) (hb2.mono (by simp <;> omega))
    have q0 : w2.cell? ⟨w.heap.size, 0, none⟩ = some (.int .i64 0) := (hb2.cell (by first | omega | (simp <;> omega))).trans (by go_simp)
    have f0 : w2.frozen? ⟨w.heap.size, 0, none⟩ = false := (hb2.frozen (by first | omega | (simp <;> omega))).trans (by go_simp)
    have v0 : w2.cell? ⟨w.heap.size + 1, 0, none⟩ = some (.int .i64 (k)) := (hb2.cell (by first | omega | (simp <;> omega))).trans (by go_simp)
    have q1 : w2.cell? ⟨w.heap.size, 1, none⟩ = some (.int .i64 0) := (hb2.cell (by first | omega | (simp <;> omega))).trans (by go_simp)
    have f1 : w2.frozen? ⟨w.heap.size, 1, none⟩ = false := (hb2.frozen (by first | omega | (simp <;> omega))).trans (by go_simp)
    have v1 : w2.cell? ⟨w.heap.size + 1, 1, none⟩ = some (.int .i64 (g)) := (hb2.cell (by first | omega | (simp <;> omega))).trans (by go_simp)
    have q2 : w2.cell? ⟨w.heap.size, 2, none⟩ = some (.int .i64 0) := (hb2.cell (by first | omega | (simp <;> omega))).trans (by go_simp)
    have f2 : w2.frozen? ⟨w.heap.size, 2, none⟩ = false := (hb2.frozen (by first | omega | (simp <;> omega))).trans (by go_simp)
    have v2 : w2.cell? ⟨w.heap.size + 1, 2, none⟩ = some (.int .i64 (q)) := (hb2.cell (by first | omega | (simp <;> omega))).trans (by go_simp)
    have q3 : w2.cell? ⟨w.heap.size, 3, none⟩ = some (.int .i64 0) := (hb2.cell (by first | omega | (simp <;> omega))).trans (by go_simp)
    have f3 : w2.frozen? ⟨w.heap.size, 3, none⟩ = false := (hb2.frozen (by first | omega | (simp <;> omega))).trans (by go_simp)
    have v3 : w2.cell? ⟨w.heap.size + 1, 3, none⟩ = some (.int .i64 ((s.size : Int))) := (hb2.cell (by first | omega | (simp <;> omega))).trans (by go_simp)
    have q4 : w2.cell? ⟨w.heap.size, 4, none⟩ = some (.int .i64 0) := (hb2.cell (by first | omega | (simp <;> omega))).trans (by go_simp)
    have f4 : w2.frozen? ⟨w.heap.size, 4, none⟩ = false := (hb2.frozen (by first | omega | (simp <;> omega))).trans (by go_simp)
    have v4 : w2.cell? ⟨w.heap.size + 1, 4, none⟩ = some (.int .i64 (SM.rollF 1 s.data.toList)) := (hb2.cell (by first | omega | (simp <;> omega))).trans (by go_simp)
    clear hb2
    go_wp2_with fail
    refine bodyPost_ret (results_hd rfl _ _ w.heap.size 0 0 0 0 0 rfl (by go_simp) (by go_simp) (by go_simp) (by go_simp) (by go_simp)) rfl ?_
    exact ⟨rfl, by repeat' first | (with_reducible exact hB2) | (with_reducible refine Below.setCell ?_ ?_ _) | omega | (simp <;> omega)⟩
end RecW
end Go.Proofs.Ytabmdijfholakaa
