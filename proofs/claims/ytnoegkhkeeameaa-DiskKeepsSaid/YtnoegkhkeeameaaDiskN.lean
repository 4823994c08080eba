/- The contracts of the laws' questions: Small, Same. -/
import Derived.Test.YtnoegkhkeeameaaDiskI
namespace Go.Proofs.Ytnoegkhkeeameaa
open Go.RowKit
set_option linter.unusedVariables false
namespace DM
def smallD (d : Dk) : Prop := (d.secs.length ≤ 600 ∧ ∀ s ∈ d.secs, s.size ≤ 100) ∧ (d.cache.length ≤ 200 ∧ ∀ p ∈ d.cache, p.2.size ≤ 100)
instance (d : Dk) : Decidable (smallD d) := by unfold smallD; infer_instance
end DM
namespace DiskW
set_option maxHeartbeats 3200000 in
set_option maxRecDepth 100000 in
theorem small_any (a1 a2 : Option Addr) (n k1 m k2 : Nat) (d : DM.Dk) (w : World) (h : DM.DV w (.slice a1 n k1) (.slice a2 m k2) d) (b1 : n ≤ 9223372036854775807) (b2 : m ≤ 9223372036854775807) :
    Calls Try.prog 9 #[.agg #[.slice a1 n k1, .slice a2 m k2]] w fun e w' => e = .returned (.bool (decide (DM.smallD d))) ∧ Below w.heap.size w w' := by
  obtain ⟨hn, hm⟩ := DM.DV.len h
  have HN := Lib.hid hn; clear hn
  have HM := Lib.hid hm; clear hm
  have H := Lib.hid h; clear h
  obtain ⟨z, hz⟩ : ∃ z, decide (DM.smallD d) = z := ⟨_, rfl⟩
  rw [hz]
  have HZ := Lib.hid hz; clear hz
  go_enter Try.func9, Try.ntmps9
  go_wp2_with fail
  have HA := Lib.hid (DM.Var.made w (.slice a1 n k1) (.slice a2 m k2) 25)
  have HB : Hid (Below w.heap.size w (w.alloc (.cells #[.slice a1 n k1, .slice a2 m k2] 25))) := Lib.hid ((Below.refl _ _).alloc (Nat.le_refl _) _)
  generalize hW0 : w.alloc (.cells #[.slice a1 n k1, .slice a2 m k2] 25) = W0 at *
  clear hW0
  have c0 := HA.out.c0
  have c1 := HA.out.c1
  go_loop [3] (fun i => ∃ k : Nat, k ≤ n ∧ i = .int .i64 k ∧ (0 < k → n ≤ 600) ∧ ∀ j (h : j < d.secs.length), j < k → d.secs[j].size ≤ 100) (fun i => n - (intOf i).toNat)
  case atStart => exact ⟨0, Nat.zero_le _, rfl, fun h => by omega, fun j _ h => by omega⟩
  case round =>
    obtain ⟨k, hk, rfl, hlen, hall⟩ := hrel
    have HALL := Lib.hid hall; clear hall
    have HLEN := Lib.hid hlen; clear hlen
    by_cases hkl : k < n
    · have hkd : k < d.secs.length := by rw [HN.out]; exact hkl
      obtain ⟨a, c, hv, hc⟩ := (H.out.below HB.out).1
      obtain ⟨g, off, ha, hg, hcs⟩ := hc (by omega)
      simp only [Value.slice.injEq] at hv
      rw [ha] at hv
      obtain ⟨hv1, hv2, hv3⟩ := hv
      clear hv2 hv3 hc ha
      subst hv1
      have x4 : W0.cell? ⟨g, off + k, none⟩ = some (.string d.secs[k]) := hcs k hkd
      have hki : (k : Int) < (n : Int) := by omega
      clear hcs
      by_cases h1 : (100 : Int) < (d.secs[k].size : Int)
      · have hno : z = false := by rw [← HZ.out]; exact decide_eq_false fun x => by have := x.1.2 _ (List.getElem_mem hkd); omega
        subst hno
        generalize d.secs[k] = X at x4 h1
        go_wp2_with fail
        go_ret
        exact ⟨rfl, HB.out⟩
      · by_cases h2 : (600 : Int) < (n : Int)
        · have hno : z = false := by rw [← HZ.out]; exact decide_eq_false fun x => by have := x.1.1; rw [HN.out] at this; omega
          subst hno
          generalize d.secs[k] = X at x4 h1
          go_wp2_with fail
          go_ret
          exact ⟨rfl, HB.out⟩
        · have H1 : Hid (d.secs[k].size ≤ 100) := Lib.hid (by omega)
          generalize d.secs[k] = X at x4 h1
          go_wp2_with fail
          go_round
          case rel => exact ⟨k + 1, by omega, by go_num, fun _ => by omega, fun j hj hjk => by
            by_cases e : j = k
            · subst e; exact H1.out
            · exact HALL.out j hj (by omega)⟩
          case measure => simp [intOf]; omega
    · have hkk : k = n := by omega
      subst hkk
      have HS : Hid (d.secs.length ≤ 600 ∧ ∀ s ∈ d.secs, s.size ≤ 100) := Lib.hid ⟨by have := HN.out; have := HLEN.out; omega, fun s hs => by
        obtain ⟨j, hj, rfl⟩ := List.getElem_of_mem hs
        exact HALL.out j hj (by rw [← HN.out]; exact hj)⟩
      clear HALL HLEN
      go_wp2_with fail
      go_loop [4] (fun i => ∃ q : Nat, q ≤ m ∧ i = .int .i64 q ∧ (0 < q → m ≤ 200) ∧ ∀ j (h : j < d.cache.length), j < q → d.cache[j].2.size ≤ 100) (fun i => m - (intOf i).toNat)
      case atStart => exact ⟨0, Nat.zero_le _, rfl, fun h => by omega, fun j _ h => by omega⟩
      case round =>
        obtain ⟨q, hq, rfl, hlen, hall⟩ := hrel
        have HALL := Lib.hid hall; clear hall
        have HLEN := Lib.hid hlen; clear hlen
        by_cases hql : q < m
        · have hqd : q < d.cache.length := by rw [HM.out]; exact hql
          obtain ⟨a, c, hv, hc⟩ := (H.out.below HB.out).2
          obtain ⟨g, off, ha, hg, hcs⟩ := hc (by omega)
          simp only [Value.slice.injEq] at hv
          rw [ha] at hv
          obtain ⟨hv1, hv2, hv3⟩ := hv
          clear hv2 hv3 hc ha
          subst hv1
          have x4 : W0.cell? ⟨g, off + q * 2 + 1, none⟩ = some (.string d.cache[q].2) := (hcs q hqd).2
          have hqi : (q : Int) < (m : Int) := by omega
          clear hcs
          by_cases h1 : (100 : Int) < (d.cache[q].2.size : Int)
          · have hno : z = false := by rw [← HZ.out]; exact decide_eq_false fun x => by have := x.2.2 _ (List.getElem_mem hqd); omega
            subst hno
            generalize d.cache[q].2 = X at x4 h1
            go_wp2_with fail
            go_ret
            exact ⟨rfl, HB.out⟩
          · by_cases h2 : (200 : Int) < (m : Int)
            · have hno : z = false := by rw [← HZ.out]; exact decide_eq_false fun x => by have := x.2.1; rw [HM.out] at this; omega
              subst hno
              generalize d.cache[q].2 = X at x4 h1
              go_wp2_with fail
              go_ret
              exact ⟨rfl, HB.out⟩
            · have H1 : Hid (d.cache[q].2.size ≤ 100) := Lib.hid (by omega)
              generalize d.cache[q].2 = X at x4 h1
              go_wp2_with fail
              go_round
              case rel => exact ⟨q + 1, by omega, by go_num, fun _ => by omega, fun j hj hjk => by
                by_cases e : j = q
                · subst e; exact H1.out
                · exact HALL.out j hj (by omega)⟩
              case measure => simp [intOf]; omega
        · have hqq : q = m := by omega
          subst hqq
          have hyes : z = true := by
            rw [← HZ.out]
            refine decide_eq_true ⟨HS.out, by have := HM.out; have := HLEN.out; omega, fun p hp => ?_⟩
            obtain ⟨j, hj, rfl⟩ := List.getElem_of_mem hp
            exact HALL.out j hj (by rw [← HM.out]; exact hj)
          subst hyes
          go_wp2_with fail
          go_ret
          exact ⟨rfl, HB.out⟩
end DiskW
end Go.Proofs.Ytnoegkhkeeameaa
