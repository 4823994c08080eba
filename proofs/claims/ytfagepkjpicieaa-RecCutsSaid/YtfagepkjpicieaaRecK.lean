/- The contract of the document's question whether two lists are the same. -/
import Derived.Test.YtfagepkjpicieaaRecJ
namespace Go.Proofs.Ytfagepkjpicieaa
open Go.RowKit
namespace RecW
set_option maxHeartbeats 3200000 in
set_option maxRecDepth 100000 in
theorem same_any (w : World) (v1 v2 : Value) (xs ys : List ByteArray) (h1 : RM.SV w v1 xs) (h2 : RM.SV w v2 ys) (b1 : xs.length ≤ 100000) (b2 : ys.length ≤ 100000) :
    Calls Try.prog 21 #[v1, v2] w fun e w' => e = .returned (.bool (decide (xs = ys))) ∧ ∃ m, w' = w.drewN m := by
  obtain ⟨a1, c1, rfl, h1⟩ := h1
  obtain ⟨a2, c2, rfl, h2⟩ := h2
  by_cases hn : xs.length = ys.length
  · have HN := Lib.hid hn
    obtain ⟨n, hnn⟩ : ∃ n, n = ys.length := ⟨_, rfl⟩
    rw [hn, ← hnn]
    have Hn := Lib.hid hnn
    have hb : n ≤ 100000 := by omega
    clear hn hnn b1 b2
    go_enter Try.func21, Try.ntmps21
    go_wp2
    go_loopw [5] (fun i wr => ∃ k : Nat, k ≤ n ∧ i = .int .i64 k ∧ (∀ j (h1 : j < xs.length) (h2 : j < ys.length), j < k → xs[j] = ys[j]) ∧ ∃ m, wr = w.drewN m) (fun i _ => n - (intOf i).toNat)
    case atStart => exact ⟨0, Nat.zero_le _, rfl, fun j _ _ h => by omega, 0, rfl⟩
    case round =>
      obtain ⟨k, hk, rfl, hall, m, rfl⟩ := hrel
      have HALL := Lib.hid hall; clear hall
      by_cases hkl : k < n
      · have hy : k < ys.length := by rw [← Hn.out]; exact hkl
        have hx : k < xs.length := by rw [HN.out]; exact hy
        obtain ⟨g3, o3, rfl, _, hc3⟩ := h1 (by omega)
        obtain ⟨g4, o4, rfl, _, hc4⟩ := h2 (by omega)
        have x3 : w.cell? ⟨g3, o3 + k, none⟩ = some (.string xs[k]) := hc3 k hx
        have x4 : w.cell? ⟨g4, o4 + k, none⟩ = some (.string ys[k]) := hc4 k hy
        clear hc3 hc4 h1 h2
        have hki : (k : Int) < (n : Int) := by omega
        have hk0 : (0 : Int) ≤ (k : Int) := by omega
        go_wp2
        go_quiet (fail)
        go_wp2
        · have hne : (!xs[k].toList == ys[k].toList) = true := by assumption
          have hno : ¬ xs = ys := fun e => by
            have e2 : xs[k] = ys[k] := by simp only [e]
            rw [e2] at hne
            simp at hne
          go_ret
          exact ⟨by rw [decide_eq_false hno]; rfl, _, by rw [World.drewN_drewN]⟩
        · have heq : (!xs[k].toList == ys[k].toList) = false := by assumption
          have he : xs[k] = ys[k] := RM.bytes_ext (by simpa using heq)
          have HE := Lib.hid he
          clear heq he x3 x4
          go_roundw
          case rel => exact ⟨k + 1, by omega, by go_num, fun j hj1 hj2 hjk => by
            by_cases e : j = k
            · subst e; exact HE.out
            · exact HALL.out j hj1 hj2 (by omega), _, rfl⟩
          case measure => simp [intOf]; omega
      · have hkk : k = n := by omega
        subst hkk
        have hok : xs = ys := lists_eq HN.out (fun j hj1 hj2 => HALL.out j hj1 hj2 (by rw [Hn.out]; exact hj2))
        have HOK := Lib.hid hok; clear hok
        clear h1 h2
        go_wp2
        go_ret
        exact ⟨by rw [decide_eq_true HOK.out]; rfl, _, rfl⟩
  · have hno : ¬ xs = ys := fun e => hn (by rw [e])
    rw [decide_eq_false hno]
    clear hno h1 h2
    go_enter Try.func21, Try.ntmps21
    go_wp2
    go_ret
    exact ⟨rfl, 0, rfl⟩
end RecW
end Go.Proofs.Ytfagepkjpicieaa
