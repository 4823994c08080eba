/- The walk of law SumHalves, where it makes bytes. -/
import Derived.Test.YtihblpahickhnaaSumWalks
import Derived.Laws.OwnMore
import Derived.Laws.IdiomStrings
import Derived.Below
import Derived.Laws.MakeOwn
namespace Go.Proofs.Ytihblpahickhnaa
open Go.RowKit
namespace SumW
theorem set_rep {α : Type} (k n : Nat) (x z : α) (h : k < n) : (List.replicate k x ++ List.replicate (n - k) z).set k x = List.replicate (k + 1) x ++ List.replicate (n - (k + 1)) z := by
  rw [List.set_append_right _ _ (by simp)]
  simp only [List.length_replicate, Nat.sub_self]
  obtain ⟨m, hm⟩ : ∃ m, n - k = m + 1 := ⟨n - k - 1, by omega⟩
  rw [hm, List.replicate_succ, List.set_cons_zero, show n - (k + 1) = m from by omega, List.replicate_succ']
  simp
theorem halves_walk (c n : Nat) (hc : c ≤ 255) (hn : n ≤ 60000) (w : World) :
    Calls Try.prog 12 #[.int .i64 c, .int .i64 n] w fun e w' => e = .returned (.bool true) ∧ Below w.heap.size w w' := by
  have hi : (Try.prog.info? 5).map (fun i => (i.zero, i.size, i.bytes)) = some (some (.int .u8 0), 1, 1) := by kernel_rfl
  obtain ⟨i0, hi, hz0, hz1, hz2⟩ := info_parts hi
  go_enter Try.func12, Try.ntmps12
  go_wp2_with (at_make; refine wpList_make_full _ rfl _ _ 57 rfl w.heap.size 5 i0 (.int .u8 0) 1 Try.underlying57 hi hz0 hz1 .i64 .i64 _ _ n rfl rfl rfl rfl ?b2 ?b3 (Nat.le_refl _) ?_)
  case b2 => rw [hz2]; omega
  case b3 => unfold maxLen; omega
  intro w1 hown hgrow
  have hbel : Below w.heap.size w w1 := (Below.refl _ w).grown hgrow (Nat.le_refl _) (fun k h => by cases h)
  have hown' : w1.ownsRow w.heap.size 5 1 (.slice (some ⟨w.heap.size, 0, none⟩) n n) n (List.replicate n (.int .u8 0)) := by
    rw [toList_madeCells_one] at hown; exact hown
  clear hown hgrow hi hz0 hz1 hz2
  go_wp2
  go_loopw [6] (fun i wr => ∃ k : Nat, k ≤ n ∧ i = .int .i64 k ∧ wr.ownsRow w.heap.size 5 1 (.slice (some ⟨w.heap.size, 0, none⟩) n n) n (List.replicate k (.int .u8 c) ++ List.replicate (n - k) (.int .u8 0)) ∧ Below w.heap.size w wr) (fun i _ => n - (intOf i).toNat)
  case atStart => exact ⟨0, Nat.zero_le _, rfl, by simpa using hown', hbel⟩
  case round =>
    obtain ⟨k, hk, rfl, hown, hbel⟩ := hrel
    by_cases hlt : k < n
    · have hcell : wr.cell? ⟨w.heap.size, k, none⟩ = some (.int .u8 0) := by
        rw [hown.cellAt k (by omega), List.getElem?_append_right (by simp), List.length_replicate, Nat.sub_self, List.getElem?_replicate, if_pos (by omega)]
      have hfr := hown.frozenAt k
      have hst := (hown.stored k (.int .u8 c)).1
      rw [set_rep k n _ _ hlt] at hst
      have HS := Lib.hid hst
      clear hst hown
      go_wp2
      go_roundw
      case rel => exact ⟨k + 1, by omega, by go_num, HS.out, hbel.setCell (Nat.le_refl _) _⟩
      case measure => simp [intOf]; omega
    · have hkn : k = n := by omega
      subst hkn
      have hu : (UInt8.ofNat c).toNat = c := by simp; omega
      have hcv := run_convert_bytes_back (P := Try.prog) wr 57 9 5 ⟨w.heap.size, 0, none⟩ k (List.replicate k (UInt8.ofNat c)) Try.underlying57 Try.underlying5 Try.underlying9 (by
        intro j hj
        have hj' : j < k := by simpa using hj
        have : ((⟨w.heap.size, 0, none⟩ : Addr).add j) = ⟨w.heap.size, j, none⟩ := by simp [Addr.add]; omega
        rw [this, hown.cellAt j (by omega), Nat.sub_self, List.replicate_zero, List.append_nil, List.getElem?_replicate, if_pos hj', List.getElem_replicate, hu])
      rw [List.length_replicate] at hcv
      have e1 : Hid (SM.rollF 1 (List.replicate k (UInt8.ofNat c)) % 65536 = (1 + k * c) % 65521) := by
        apply Lib.hid; rw [SM.low_one, SM.S_rep, hu]
      have e2 : Hid (SM.rollF 1 (List.replicate k (UInt8.ofNat c)) / 65536 = (k + c * (k * (k + 1) / 2)) % 65521) := by
        apply Lib.hid; rw [SM.high_one, SM.W_rep, hu, List.length_replicate]
      have hl := SM.roll_lt 1 (List.replicate k (UInt8.ofNat c))
      have p1 : 0 ≤ (k : Int) * c ∧ (k : Int) * c ≤ 60000 * 255 := ⟨Int.mul_nonneg (by omega) (by omega), Int.mul_le_mul (by omega) (by omega) (by omega) (by omega)⟩
      have p2 : 0 ≤ (k : Int) * (k + 1) ∧ (k : Int) * (k + 1) ≤ 60000 * 60001 := ⟨Int.mul_nonneg (by omega) (by omega), Int.mul_le_mul (by omega) (by omega) (by omega) (by omega)⟩
      have p3 : 0 ≤ (c : Int) * (k * (k + 1) / 2) ∧ (c : Int) * (k * (k + 1) / 2) ≤ 255 * 1800030000 := ⟨Int.mul_nonneg (by omega) (by omega), Int.mul_le_mul (by omega) (by omega) (by omega) (by omega)⟩
      clear hu
      go_wp2_with fail
      refine (of_any _ _ (by rw [show (⟨(Array.replicate k (UInt8.ofNat c))⟩ : ByteArray).size = k from Array.size_replicate]; unfold maxLen; omega)).mono ?_; rintro e w' ⟨rfl, rfl⟩
      rw [Array.toList_replicate]
      have e1' := e1.out
      have e2' := e2.out
      go_wp2_with fail
      refine (live_any _).mono ?_; rintro e w' ⟨rfl, rfl⟩
      go_wp2_with fail
      go_ret
      exact ⟨rfl, hbel⟩
end SumW
end Go.Proofs.Ytihblpahickhnaa
