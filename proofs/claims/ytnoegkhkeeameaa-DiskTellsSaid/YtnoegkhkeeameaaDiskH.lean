/- The contracts of disk's Same. -/
import Derived.Test.YtnoegkhkeeameaaDiskE
import Derived.Test.YtnoegkhkeeameaaRecI
import Derived.Deep.QuietTactic
import Derived.BigQuiet
import Derived.Laws.StructEq
namespace Go.Proofs.Ytnoegkhkeeameaa
open Go.RowKit
set_option linter.unusedVariables false
namespace DM
theorem WV.drewN {w : World} {v : Value} {l : List Wr} (h : WV w v l) (n : Nat) : WV (w.drewN n) v l := h
end DM
namespace DiskW
theorem wlists_eq {a b : List DM.Wr} (hn : a.length = b.length) (h : ∀ j (h1 : j < a.length) (h2 : j < b.length), a[j] = b[j]) : a = b := List.ext_getElem hn h
set_option maxHeartbeats 1600000 in
set_option maxRecDepth 100000 in
theorem eqW_any (w : World) (v1 v2 : Value) (xs ys : List DM.Wr) (h1 : DM.WV w v1 xs) (h2 : DM.WV w v2 ys) (b1 : xs.length ≤ 1000000) (b2 : ys.length ≤ 1000000) :
    Calls Try.prog 60 #[v1, v2] w fun e w' => e = .returned (.bool (decide (xs = ys))) ∧ ∃ m, w' = w.drewN m := by
  obtain ⟨a1, c1, rfl, h1⟩ := h1
  obtain ⟨a2, c2, rfl, h2⟩ := h2
  by_cases hn : xs.length = ys.length
  · have HN := Lib.hid hn
    obtain ⟨n, hnn⟩ : ∃ n, n = ys.length := ⟨_, rfl⟩
    rw [hn, ← hnn]
    have Hn := Lib.hid hnn
    have hb : n ≤ 1000000 := by omega
    have H1 := Lib.hid h1
    have H2 := Lib.hid h2
    clear hn hnn b1 b2 h1 h2
    go_enter Try.func60, Try.ntmps60
    go_wp2
    go_loopw [13] (fun i wr => ∃ k : Nat, k ≤ n ∧ i = .int .i64 k ∧ (∀ j (h1 : j < xs.length) (h2 : j < ys.length), j < k → xs[j] = ys[j]) ∧ ∃ m, wr = w.drewN m) (fun i _ => n - (intOf i).toNat)
    case atStart => exact ⟨0, Nat.zero_le _, rfl, fun j _ _ h => by omega, 0, rfl⟩
    case round =>
      obtain ⟨k, hk, rfl, hall, m, rfl⟩ := hrel
      have HALL := Lib.hid hall; clear hall
      by_cases hkl : k < n
      · have hy : k < ys.length := by rw [← Hn.out]; exact hkl
        have hx : k < xs.length := by rw [HN.out]; exact hy
        obtain ⟨g3, o3, rfl, _, hc3⟩ := H1.out (by omega)
        obtain ⟨g4, o4, rfl, _, hc4⟩ := H2.out (by omega)
        have x3 := (hc3 k hx).1
        have x3' := (hc3 k hx).2
        have x4 := (hc4 k hy).1
        have x4' := (hc4 k hy).2
        have hek : Hid (xs[k] = ys[k] ↔ xs[k].1 = ys[k].1 ∧ xs[k].2 = ys[k].2) := Lib.hid Prod.ext_iff
        have HK := Lib.hid (rfl : xs[k] = xs[k])
        clear hc3 hc4
        obtain ⟨P, hP⟩ : ∃ P, xs[k] = P := ⟨_, rfl⟩
        obtain ⟨Q, hQ⟩ : ∃ Q, ys[k] = Q := ⟨_, rfl⟩
        rw [hP] at x3 x3'
        rw [hQ] at x4 x4'
        have HP := Lib.hid hP
        have HQ := Lib.hid hQ
        clear hP hQ hek HK
        obtain ⟨i1, s1⟩ := P
        obtain ⟨i2, s2⟩ := Q
        simp only at x3 x3' x4 x4'
        have hki : (k : Int) < (n : Int) := by omega
        have hk0 : (0 : Int) ≤ (k : Int) := by omega
        have hc : (i1 = i2 ∧ s1 = s2) ∨ ((i1 == i2) = false) ∨ (i1 = i2 ∧ (s1.toList == s2.toList) = false) := by
          by_cases h1 : i1 = i2
          · by_cases h2 : s1 = s2
            · exact Or.inl ⟨h1, h2⟩
            · refine Or.inr (Or.inr ⟨h1, ?_⟩)
              have : ¬ s1.toList = s2.toList := fun h => h2 (RM.bytes_ext h)
              simpa using this
          · exact Or.inr (Or.inl (by simpa using h1))
        rcases hc with ⟨rfl, rfl⟩ | hne | ⟨rfl, hne⟩
        · have HE : Hid (xs[k] = ys[k]) := Lib.hid (by rw [HP.out, HQ.out])
          go_wp2
          go_quiet (fail)
          go_wp2
          go_roundw
          case rel => exact ⟨k + 1, by omega, by go_num, fun j hj1 hj2 hjk => by
            by_cases e : j = k
            · subst e; exact HE.out
            · exact HALL.out j hj1 hj2 (by omega), _, rfl⟩
          case measure => simp [intOf]; omega
        · have hno : Hid (¬ xs = ys) := Lib.hid (fun e => by
            have e2 : xs[k] = ys[k] := by simp only [e]
            rw [HP.out, HQ.out] at e2
            simp only [Prod.mk.injEq] at e2
            rw [e2.1] at hne
            simp at hne)
          go_wp2
          go_quiet (fail)
          go_wp2
          go_ret
          exact ⟨by rw [decide_eq_false hno.out]; rfl, _, by rw [World.drewN_drewN]⟩
        · have hno : Hid (¬ xs = ys) := Lib.hid (fun e => by
            have e2 : xs[k] = ys[k] := by simp only [e]
            rw [HP.out, HQ.out] at e2
            simp only [Prod.mk.injEq] at e2
            rw [e2.2] at hne
            simp at hne)
          go_wp2
          go_quiet (fail)
          go_wp2
          go_ret
          exact ⟨by rw [decide_eq_false hno.out]; rfl, _, by rw [World.drewN_drewN]⟩
      · have hkk : k = n := by omega
        subst hkk
        have hok : xs = ys := wlists_eq HN.out (fun j hj1 hj2 => HALL.out j hj1 hj2 (by rw [Hn.out]; exact hj2))
        have HOK := Lib.hid hok; clear hok
        go_wp2
        go_ret
        exact ⟨by rw [decide_eq_true HOK.out]; rfl, _, rfl⟩
  · have hno : ¬ xs = ys := fun e => hn (by rw [e])
    rw [decide_eq_false hno]
    clear hno h1 h2
    have hn1 : ((xs.length : Int) == (ys.length : Int)) = false := by simp; omega
    go_enter Try.func60, Try.ntmps60
    go_wp2
    go_ret
    exact ⟨rfl, 0, rfl⟩
end DiskW
end Go.Proofs.Ytnoegkhkeeameaa
