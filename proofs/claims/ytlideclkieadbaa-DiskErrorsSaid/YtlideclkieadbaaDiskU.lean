/- The contract of the laws' question whether acts are few. -/
import Derived.Test.YtlideclkieadbaaDiskS
namespace Go.Proofs.Ytlideclkieadbaa
open Go.RowKit
set_option linter.unusedVariables false
namespace DM
def fewA (l : List Ac) : Prop := l.length ≤ 200 ∧ ∀ a ∈ l, a.2.2.size ≤ 100
instance (l : List Ac) : Decidable (fewA l) := by unfold fewA; infer_instance
end DM
namespace DiskW
set_option maxHeartbeats 1600000 in
set_option maxRecDepth 100000 in
theorem few_any (a : Option Addr) (n cap : Nat) (l : List DM.Ac) (w : World) (h : DM.AV w (.slice a n cap) l) (hb : n ≤ 9223372036854775807) :
    Calls Try.prog 49 #[.slice a n cap] w fun e w' => e = .returned (.bool (decide (DM.fewA l))) ∧ w = w' := by
  obtain ⟨a', c', e, _, _, hc⟩ := h
  simp only [Value.slice.injEq] at e
  obtain ⟨e1, e2, e3⟩ := e
  have HN : Hid (l.length = n) := Lib.hid e2.symm
  have HC := Lib.hid hc
  clear e2 e3 hc
  subst e1
  obtain ⟨z, hz⟩ : ∃ z, decide (DM.fewA l) = z := ⟨_, rfl⟩
  rw [hz]
  have HZ := Lib.hid hz; clear hz
  go_enter Try.func49, Try.ntmps49
  go_wp2_with fail
  go_loop [3] (fun i => ∃ k : Nat, k ≤ n ∧ i = .int .i64 k ∧ ∀ j (h : j < l.length), j < k → l[j].2.2.size ≤ 100) (fun i => n - (intOf i).toNat)
  case atStart => exact ⟨0, Nat.zero_le _, rfl, fun j _ h => by omega⟩
  case round =>
    obtain ⟨k, hk, rfl, hall⟩ := hrel
    have HALL := Lib.hid hall; clear hall
    by_cases hkl : k < n
    · have hkd : k < l.length := by rw [HN.out]; exact hkl
      obtain ⟨g, off, rfl, hg, hcs⟩ := HC.out (by omega)
      have x4 : w.cell? ⟨g, off + k * 3 + 2, none⟩ = some (.string l[k].2.2) := (hcs k hkd).2.2
      have hki : (k : Int) < (n : Int) := by omega
      clear hcs
      by_cases h1 : (100 : Int) < (l[k].2.2.size : Int)
      · have hno : z = false := by rw [← HZ.out]; exact decide_eq_false fun x => by have := x.2 _ (List.getElem_mem hkd); omega
        subst hno
        generalize l[k].2.2 = X at x4 h1
        go_wp2_with fail
        go_ret
        exact ⟨rfl, rfl⟩
      · have H1 : Hid (l[k].2.2.size ≤ 100) := Lib.hid (by omega)
        generalize l[k].2.2 = X at x4 h1
        go_wp2_with fail
        go_round
        case rel => exact ⟨k + 1, by omega, by go_num, fun j hj hjk => by
          by_cases e : j = k
          · subst e; exact H1.out
          · exact HALL.out j hj (by omega)⟩
        case measure => simp [intOf]; omega
    · have hkk : k = n := by omega
      subst hkk
      have hz : z = decide ((k : Int) ≤ 200) := by
        rw [← HZ.out, Bool.eq_iff_iff, decide_eq_true_iff, decide_eq_true_iff]
        constructor
        · intro h; have := h.1; rw [HN.out] at this; omega
        · intro h
          refine ⟨by rw [HN.out]; omega, fun a ha => ?_⟩
          obtain ⟨j, hj, rfl⟩ := List.getElem_of_mem ha
          exact HALL.out j hj (by rw [← HN.out]; exact hj)
      subst hz
      go_wp2_with fail
      go_ret
      exact ⟨rfl, rfl⟩
end DiskW
end Go.Proofs.Ytlideclkieadbaa
