/- The contract of the document's question whether two disks are the same. -/
import Derived.Test.YtnoegkhkeeameaaDiskI
namespace Go.Proofs.Ytnoegkhkeeameaa
open Go.RowKit
set_option linter.unusedVariables false
namespace DiskW
theorem dv_rows {w : World} {a1 a2 : Option Addr} {n k1 m k2 : Nat} {d : DM.Dk} (h : DM.DV w (.slice a1 n k1) (.slice a2 m k2) d) :
    (0 < n → ∃ b off, a1 = some ⟨b, off, none⟩ ∧ ∀ j (h : j < d.secs.length), w.cell? ⟨b, off + j, none⟩ = some (.string d.secs[j])) ∧
    (0 < m → ∃ b off, a2 = some ⟨b, off, none⟩ ∧ ∀ k (h : k < d.cache.length), w.cell? ⟨b, off + k * 2, none⟩ = some (.int .i64 d.cache[k].1) ∧ w.cell? ⟨b, off + k * 2 + 1, none⟩ = some (.string d.cache[k].2)) := by
  obtain ⟨hn, hm⟩ := DM.DV.len h
  obtain ⟨⟨x, y, h1, h2⟩, ⟨z, t, h3, h4⟩⟩ := h
  simp only [Value.slice.injEq] at h1 h3
  refine ⟨fun h0 => ?_, fun h0 => ?_⟩
  · obtain ⟨b, off, e, _, hc⟩ := h2 (by omega)
    exact ⟨b, off, h1.1.trans e, hc⟩
  · obtain ⟨b, off, e, _, hc⟩ := h4 (by omega)
    exact ⟨b, off, h3.1.trans e, hc⟩
set_option maxHeartbeats 3200000 in
set_option maxRecDepth 100000 in
theorem rsame_any (a1 a2 a3 a4 : Option Addr) (n1 k1 n2 k2 n3 k3 n4 k4 : Nat) (d1 d2 : DM.Dk) (w : World) (h1 : DM.DV w (.slice a1 n1 k1) (.slice a2 n2 k2) d1) (h2 : DM.DV w (.slice a3 n3 k3) (.slice a4 n4 k4) d2)
    (b1 : n1 ≤ 1000000) (b2 : n2 ≤ 1000000) (b3 : n3 ≤ 1000000) (b4 : n4 ≤ 1000000) :
    Calls Try.prog 29 #[.agg #[.slice a1 n1 k1, .slice a2 n2 k2], .agg #[.slice a3 n3 k3, .slice a4 n4 k4]] w fun e w' => e = .returned (.bool (decide (d1 = d2))) ∧ Below w.heap.size w w' := by
  obtain ⟨l1, l2⟩ := DM.DV.len h1
  obtain ⟨l3, l4⟩ := DM.DV.len h2
  obtain ⟨z, hz⟩ : ∃ z, decide (d1 = d2) = z := ⟨_, rfl⟩
  rw [hz]
  by_cases e13 : n1 = n3
  · by_cases e24 : n2 = n4
    · have L1 := Lib.hid l1
      have L2 := Lib.hid l2
      have L3 : Hid (d2.secs.length = n1) := Lib.hid (by omega)
      have L4 : Hid (d2.cache.length = n2) := Lib.hid (by omega)
      subst e13 e24
      have H1 := Lib.hid h1
      have H2 := Lib.hid h2
      have HZ := Lib.hid hz
      clear h1 h2 hz l1 l2 l3 l4 b3 b4
      go_enter Try.func29, Try.ntmps29
      go_wp2_with fail
      have V := Lib.hid (DM.Var.two w (.slice a1 n1 k1) (.slice a2 n2 k2) (.slice a3 n1 k3) (.slice a4 n2 k4) 25)
      have B0 : Hid (Below w.heap.size w ((w.alloc (.cells #[.slice a1 n1 k1, .slice a2 n2 k2] 25)).alloc (.cells #[.slice a3 n1 k3, .slice a4 n2 k4] 25))) := Lib.hid (DM.below_two w _ _)
      generalize hW0 : (w.alloc (.cells #[.slice a1 n1 k1, .slice a2 n2 k2] 25)).alloc (.cells #[.slice a3 n1 k3, .slice a4 n2 k4] 25) = W0 at *
      clear hW0
      have D1 := Lib.hid (dv_rows (H1.out.below B0.out))
      have D2 := Lib.hid (dv_rows (H2.out.below B0.out))
      have c0 := V.out.1.c0
      have c1 := V.out.1.c1
      have c2 := V.out.2.c0
      have c3 := V.out.2.c1
      go_loopw [5] (fun i wr => ∃ k : Nat, k ≤ n1 ∧ i = .int .i64 k ∧ (∀ j (h1 : j < d1.secs.length) (h2 : j < d2.secs.length), j < k → d1.secs[j] = d2.secs[j]) ∧ ∃ m, wr = W0.drewN m) (fun i _ => n1 - (intOf i).toNat)
      case atStart => exact ⟨0, Nat.zero_le _, rfl, fun j _ _ h => by omega, 0, rfl⟩
      case round =>
        obtain ⟨k, hk, rfl, hall, m, rfl⟩ := hrel
        have HALL := Lib.hid hall; clear hall
        by_cases hkl : k < n1
        · have hx : k < d1.secs.length := by rw [L1.out]; exact hkl
          have hy : k < d2.secs.length := by rw [L3.out]; exact hkl
          obtain ⟨g3, o3, rfl, hc3⟩ := D1.out.1 (by omega)
          obtain ⟨g4, o4, rfl, hc4⟩ := D2.out.1 (by omega)
          have x3 : W0.cell? ⟨g3, o3 + k, none⟩ = some (.string d1.secs[k]) := hc3 k hx
          have x4 : W0.cell? ⟨g4, o4 + k, none⟩ = some (.string d2.secs[k]) := hc4 k hy
          clear hc3 hc4
          have hki : (k : Int) < (n1 : Int) := by omega
          have hk0 : (0 : Int) ≤ (k : Int) := by omega
          go_wp2
          go_quiet (fail)
          go_wp2
          · have hne : (!d1.secs[k].toList == d2.secs[k].toList) = true := by assumption
            have hno : z = false := by
              rw [← HZ.out]
              refine decide_eq_false fun e => ?_
              have e2 : d1.secs[k] = d2.secs[k] := by simp only [e]
              rw [e2] at hne
              simp at hne
            go_ret
            exact ⟨by rw [hno]; rfl, by first | exact Lib.below_drewN (Lib.below_drewN B0.out _) _ | exact Lib.below_drewN B0.out _⟩
          · have heq : (!d1.secs[k].toList == d2.secs[k].toList) = false := by assumption
            have he : d1.secs[k] = d2.secs[k] := RM.bytes_ext (by simpa using heq)
            have HE := Lib.hid he
            clear heq he x3 x4
            go_roundw
            case rel => exact ⟨k + 1, by omega, by go_num, fun j hj1 hj2 hjk => by
              by_cases e : j = k
              · subst e; exact HE.out
              · exact HALL.out j hj1 hj2 (by omega), _, rfl⟩
            case measure => simp [intOf]; omega
        · have hkk : k = n1 := by omega
          subst hkk
          have HS : Hid (d1.secs = d2.secs) := Lib.hid (RecW.lists_eq (by rw [L1.out, L3.out]) (fun j hj1 hj2 => HALL.out j hj1 hj2 (by rw [← L1.out]; exact hj1)))
          go_wp2
          go_loopw [6] (fun i wr => ∃ q : Nat, q ≤ n2 ∧ i = .int .i64 q ∧ (∀ j (h1 : j < d1.cache.length) (h2 : j < d2.cache.length), j < q → d1.cache[j] = d2.cache[j]) ∧ ∃ m, wr = W0.drewN m) (fun i _ => n2 - (intOf i).toNat)
          case atStart => exact ⟨0, Nat.zero_le _, rfl, fun j _ _ h => by omega, _, rfl⟩
          case round =>
            obtain ⟨q, hq, rfl, hall2, m2, rfl⟩ := hrel
            have HALL2 := Lib.hid hall2; clear hall2
            by_cases hql : q < n2
            · have hx : q < d1.cache.length := by rw [L2.out]; exact hql
              have hy : q < d2.cache.length := by rw [L4.out]; exact hql
              obtain ⟨g3, o3, rfl, hc3⟩ := D1.out.2 (by omega)
              obtain ⟨g4, o4, rfl, hc4⟩ := D2.out.2 (by omega)
              have x3 := (hc3 q hx).1
              have x3' := (hc3 q hx).2
              have x4 := (hc4 q hy).1
              have x4' := (hc4 q hy).2
              clear hc3 hc4
              obtain ⟨P, hP⟩ : ∃ P, d1.cache[q] = P := ⟨_, rfl⟩
              obtain ⟨Q, hQ⟩ : ∃ Q, d2.cache[q] = Q := ⟨_, rfl⟩
              rw [hP] at x3 x3'
              rw [hQ] at x4 x4'
              have HP := Lib.hid hP
              have HQ := Lib.hid hQ
              clear hP hQ
              obtain ⟨i1, s1⟩ := P
              obtain ⟨i2, s2⟩ := Q
              simp only at x3 x3' x4 x4'
              have hki : (q : Int) < (n2 : Int) := by omega
              have hk0 : (0 : Int) ≤ (q : Int) := by omega
              have hc : (i1 = i2 ∧ s1 = s2) ∨ ((i1 == i2) = false) ∨ (i1 = i2 ∧ (s1.toList == s2.toList) = false) := by
                by_cases h1 : i1 = i2
                · by_cases h2 : s1 = s2
                  · exact Or.inl ⟨h1, h2⟩
                  · refine Or.inr (Or.inr ⟨h1, ?_⟩)
                    have : ¬ s1.toList = s2.toList := fun h => h2 (RM.bytes_ext h)
                    simpa using this
                · exact Or.inr (Or.inl (by simpa using h1))
              have hno : Hid (¬ (i1 = i2 ∧ s1 = s2) → z = false) := Lib.hid (fun hh => by
                rw [← HZ.out]
                refine decide_eq_false fun e => hh ?_
                have e2 : d1.cache[q] = d2.cache[q] := by simp only [e]
                rw [HP.out, HQ.out] at e2
                simpa using e2)
              rcases hc with ⟨rfl, rfl⟩ | hne | ⟨rfl, hne⟩
              · have HE : Hid (d1.cache[q] = d2.cache[q]) := Lib.hid (by rw [HP.out, HQ.out])
                clear hno
                go_wp2
                go_quiet (fail)
                go_wp2
                go_roundw
                case rel => exact ⟨q + 1, by omega, by go_num, fun j hj1 hj2 hjk => by
                  by_cases e : j = q
                  · subst e; exact HE.out
                  · exact HALL2.out j hj1 hj2 (by omega), _, rfl⟩
                case measure => simp [intOf]; omega
              · have hz : z = false := hno.out (fun h => by rw [h.1] at hne; simp at hne)
                subst hz
                clear hno
                go_wp2
                go_quiet (fail)
                go_wp2
                go_ret
                exact ⟨rfl, by first | exact Lib.below_drewN (Lib.below_drewN B0.out _) _ | exact Lib.below_drewN B0.out _⟩
              · have hz : z = false := hno.out (fun h => by rw [h.2] at hne; simp at hne)
                subst hz
                clear hno
                go_wp2
                go_quiet (fail)
                go_wp2
                go_ret
                exact ⟨rfl, by first | exact Lib.below_drewN (Lib.below_drewN B0.out _) _ | exact Lib.below_drewN B0.out _⟩
            · have hqq : q = n2 := by omega
              subst hqq
              have hyes : z = true := by
                rw [← HZ.out]
                exact decide_eq_true ((dk_eq _ _).2 ⟨HS.out, wlists_eq (by rw [L2.out, L4.out]) (fun j hj1 hj2 => HALL2.out j hj1 hj2 (by rw [← L2.out]; exact hj1))⟩)
              subst hyes
              go_wp2
              go_ret
              exact ⟨rfl, Lib.below_drewN B0.out _⟩
    · have hno : z = false := by rw [← hz]; exact decide_eq_false fun e => e24 (by rw [← l2, ← l4, e])
      subst hno
      clear l1 l2 l3 l4 hz h1 h2
      subst e13
      have hne : ((n2 : Int) == (n4 : Int)) = false := by simp; omega
      go_enter Try.func29, Try.ntmps29
      go_wp2_with fail
      go_ret
      exact ⟨rfl, DM.below_two w _ _⟩
  · have hno : z = false := by rw [← hz]; exact decide_eq_false fun e => e13 (by rw [← l1, ← l3, e])
    subst hno
    clear l1 l2 l3 l4 hz h1 h2
    have hne : ((n1 : Int) == (n3 : Int)) = false := by simp; omega
    go_enter Try.func29, Try.ntmps29
    go_wp2_with fail
    go_ret
    exact ⟨rfl, DM.below_two w _ _⟩
end DiskW
end Go.Proofs.Ytnoegkhkeeameaa
