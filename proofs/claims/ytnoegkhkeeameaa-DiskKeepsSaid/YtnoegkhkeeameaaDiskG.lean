/- The contracts of disk's Get and Same. -/
import Derived.Test.YtnoegkhkeeameaaDiskE
import Derived.Test.YtnoegkhkeeameaaRecH
import Derived.Deep.QuietTactic
import Derived.BigQuiet
import Derived.Laws.StructEq
namespace Go.Proofs.Ytnoegkhkeeameaa
open Go.RowKit
set_option linter.unusedVariables false
namespace DM
theorem lastOf_snoc (x : ByteArray) (l : List Wr) (i : Int) (k : Nat) (h : k < l.length) : lastOf x (l.take (k + 1)) i = if l[k].1 = i then l[k].2 else lastOf x (l.take k) i := by
  unfold lastOf
  rw [← List.take_append_getElem h, List.foldl_append]; rfl
end DM
namespace DiskW
set_option maxHeartbeats 1600000 in
set_option maxRecDepth 100000 in
theorem get_no (a1 a2 : Option Addr) (k1 k2 n m : Nat) (d : DM.Dk) (i : Int) (w : World) (h : DM.DV w (.slice a1 n k1) (.slice a2 m k2) d) (hn : d.secs.length = n) (hm : d.cache.length = m) (b1 : n ≤ 1000000) (b2 : m ≤ 1000000) (hno : ¬ DM.getOk d i) :
    Calls Try.prog 28 #[.agg #[.slice a1 n k1, .slice a2 m k2], .int .i64 i] w fun e w' => e = .returned (.tuple #[.string ⟨#[]⟩, .int .i64 1]) ∧ Below w.heap.size w w' := by
  obtain ⟨x, hx⟩ : ∃ x, decide (DM.mayD d) = x := ⟨_, rfl⟩
  have C2 : Hid (∀ w', DM.DV w' (.slice a1 n k1) (.slice a2 m k2) d → Calls Try.prog 30 #[.agg #[.slice a1 n k1, .slice a2 m k2]] w' fun e w'' => e = .returned (.bool x) ∧ Below w'.heap.size w' w'') := Lib.hid (fun w' h => by
    have := may_any _ _ d w' h (by omega) (by omega)
    rw [hx] at this
    exact this)
  have C3 : Hid (∀ w', x = true → Calls Try.prog 57 #[.agg #[.slice a1 n k1, .slice a2 m k2], .int .i64 i] w' fun e w'' => e = .returned (.bool false) ∧ Below w'.heap.size w' w'') := Lib.hid (fun w' h1 => has_any a1 n k1 _ i w' false (decide_eq_false (fun h => hno ⟨of_decide_eq_true (hx.trans h1), by rw [hn]; exact h⟩)) (by omega))
  have H := Lib.hid h; clear h hx hno hn hm
  cases x
  all_goals
    go_enter Try.func28, Try.ntmps28
    go_wp2_with fail
    have V := Lib.hid (DM.Var.made w (.slice a1 n k1) (.slice a2 m k2) 25)
    have B0 := Lib.hid ((Below.refl _ w).alloc (Nat.le_refl _) (.cells #[.slice a1 n k1, .slice a2 m k2] 25))
    refine (C2.out _ (H.out.below B0.out)).mono ?_; rintro e w1 ⟨rfl, B1⟩
    have A1 := Lib.hid (V.out.below B1)
    have BW1 : Below w.heap.size w w1 := B0.out.trans (B1.mono B0.out.size)
    have c0 := A1.out.c0
    have c1 := A1.out.c1
    clear B1
    go_wp2_with fail
  · refine bodyPost_ret (v := .tuple #[.string ⟨#[]⟩, .int .i64 1]) (by simp [results, Try.results28, go_sem]) rfl ⟨rfl, BW1⟩
  · refine (C3.out _ (by trivial)).mono ?_; rintro e w2 ⟨rfl, B2⟩
    have BW2 : Below w.heap.size w w2 := BW1.trans (B2.mono BW1.size)
    go_wp2_with fail
    refine bodyPost_ret (v := .tuple #[.string ⟨#[]⟩, .int .i64 1]) (by simp [results, Try.results28, go_sem]) rfl ⟨rfl, BW2⟩
set_option maxHeartbeats 1600000 in
set_option maxRecDepth 100000 in
theorem get_yes (a1 a2 : Option Addr) (k1 k2 n m : Nat) (d : DM.Dk) (p : Nat) (w : World) (h : DM.DV w (.slice a1 n k1) (.slice a2 m k2) d) (hn : d.secs.length = n) (hm : d.cache.length = m) (b1 : n ≤ 1000000) (b2 : m ≤ 1000000) (hmay : DM.mayD d) (hp : p < n) :
    Calls Try.prog 28 #[.agg #[.slice a1 n k1, .slice a2 m k2], .int .i64 (p : Int)] w fun e w' => e = .returned (.tuple #[.string (DM.lastOf (d.secs.getD p ⟨#[]⟩) d.cache p), .int .i64 0]) ∧ Below w.heap.size w w' := by
  have C2 : Hid (∀ w', DM.DV w' (.slice a1 n k1) (.slice a2 m k2) d → Calls Try.prog 30 #[.agg #[.slice a1 n k1, .slice a2 m k2]] w' fun e w'' => e = .returned (.bool true) ∧ Below w'.heap.size w' w'') := Lib.hid (fun w' h => by
    have := may_any _ _ d w' h (by omega) (by omega)
    rw [decide_eq_true hmay] at this
    exact this)
  have C3 : Hid (∀ w', Calls Try.prog 57 #[.agg #[.slice a1 n k1, .slice a2 m k2], .int .i64 (p : Int)] w' fun e w'' => e = .returned (.bool true) ∧ Below w'.heap.size w' w'') := Lib.hid (fun w' => has_any a1 n k1 _ p w' true (decide_eq_true ⟨by omega, by omega⟩) (by omega))
  obtain ⟨a, c, hv1, hc1⟩ := h.1
  obtain ⟨g, off, rfl, hg, hcs⟩ := hc1 (by omega)
  simp only [Value.slice.injEq] at hv1
  obtain ⟨rfl, hv2, rfl⟩ := hv1
  clear hv2
  obtain ⟨x0, hx0⟩ : ∃ x, d.secs.getD p ⟨#[]⟩ = x := ⟨_, rfl⟩
  have y0 : w.cell? ⟨g, off + p, none⟩ = some (.string x0) := by rw [hcs p (by omega), ← hx0]; simp [List.getD, show p < d.secs.length from by omega]
  rw [hx0]
  clear hcs hc1 hx0
  have H := Lib.hid h; clear h
  have HM := Lib.hid hm; clear hm
  obtain ⟨R, hR⟩ : ∃ R, DM.lastOf x0 d.cache p = R := ⟨_, rfl⟩
  rw [hR]
  have HR := Lib.hid hR; clear hR hn hmay
  have hp0 : (0 : Int) ≤ (p : Int) := by omega
  have hpi : (p : Int) < (n : Int) := by omega
  go_enter Try.func28, Try.ntmps28
  go_wp2_with fail
  have V := Lib.hid (DM.Var.made w (.slice (some ⟨g, off, none⟩) n k1) (.slice a2 m k2) 25)
  have B0 := Lib.hid ((Below.refl _ w).alloc (Nat.le_refl _) (.cells #[.slice (some ⟨g, off, none⟩) n k1, .slice a2 m k2] 25))
  refine (C2.out _ (H.out.below B0.out)).mono ?_; rintro e w1 ⟨rfl, B1⟩
  have A1 := Lib.hid (V.out.below B1)
  have BW1 : Below w.heap.size w w1 := B0.out.trans (B1.mono B0.out.size)
  have c0 := A1.out.c0
  have c1 := A1.out.c1
  clear B1
  go_wp2_with fail
  refine (C3.out _).mono ?_; rintro e w2 ⟨rfl, B2⟩
  have A2 := Lib.hid (A1.out.below B2)
  have BW2 : Below w.heap.size w w2 := BW1.trans (B2.mono BW1.size)
  clear B2 A1 c0 c1 BW1
  have c0 := A2.out.c0
  have c1 := A2.out.c1
  have y2 : w2.cell? ⟨g, off + p, none⟩ = some (.string x0) := (BW2.cell (p := ⟨g, off + p, none⟩) hg).trans y0
  go_wp2_with fail
  go_loopw [6, 26] (fun v i wr => ∃ q : Nat, q ≤ m ∧ i = .int .i64 q ∧ v = .string (DM.lastOf x0 (d.cache.take q) p) ∧ Below w.heap.size w wr) (fun _ i _ => m - (intOf i).toNat)
  case atStart => exact ⟨0, Nat.zero_le _, rfl, rfl, BW2⟩
  case round =>
    clear A2 c0 c1 y2 BW2 y0
    obtain ⟨q, hq, rfl, rfl, BU⟩ := hrel
    by_cases hqm : q < m
    · have hqd : q < d.cache.length := by rw [HM.out]; exact hqm
      obtain ⟨aw, cw, hev, hcw⟩ := H.out.2
      simp only [Value.slice.injEq] at hev
      obtain ⟨g2, off2, hg2, hg2l, hcs⟩ := hcw (by omega)
      rw [hg2] at hev
      obtain ⟨hev1, hev2, hev3⟩ := hev
      clear hev2 hev3 hcw hg2
      subst hev1
      have x4 : wr.cell? ⟨g2, off2 + q * 2, none⟩ = some (.int .i64 d.cache[q].1) := (BU.cell (p := ⟨g2, off2 + q * 2, none⟩) hg2l).trans (hcs q hqd).1
      have x5 : wr.cell? ⟨g2, off2 + q * 2 + 1, none⟩ = some (.string d.cache[q].2) := (BU.cell (p := ⟨g2, off2 + q * 2 + 1, none⟩) hg2l).trans (hcs q hqd).2
      have hsn := DM.lastOf_snoc x0 d.cache p q hqd
      clear hcs
      generalize hP : d.cache[q] = P at x4 x5 hsn
      clear hP
      obtain ⟨i1, s1⟩ := P
      simp only at x4 x5 hsn
      obtain ⟨Y, hY⟩ : ∃ Y, DM.lastOf x0 (d.cache.take q) p = Y := ⟨_, rfl⟩
      rw [hY] at hsn ⊢
      have HSN := Lib.hid hsn; clear hsn hY
      have hqi : (q : Int) < (m : Int) := by omega
      have BA : Below w.heap.size w (wr.alloc (.cells #[.int .i64 i1, .string s1] 62)) := BU.alloc BU.size _
      by_cases he : i1 = (p : Int)
      · have HE := Lib.hid he
        have he1 : (i1 == (p : Int)) = true := by simpa using he
        clear he
        go_wp2_with fail
        go_roundw
        case rel => exact ⟨q + 1, by omega, by go_num, by rw [HSN.out, if_pos HE.out], BA⟩
        case measure => simp [intOf]; omega
      · have HE := Lib.hid he
        have he1 : (i1 == (p : Int)) = false := by simpa using he
        go_wp2_with fail
        go_roundw
        case rel => exact ⟨q + 1, by omega, by go_num, by rw [HSN.out, if_neg HE.out], BA⟩
        case measure => simp [intOf]; omega
    · have hqq : q = m := by omega
      subst hqq
      have hY : DM.lastOf x0 (d.cache.take q) p = R := by rw [← HR.out, List.take_of_length_le (by rw [HM.out]; exact Nat.le_refl _)]
      rw [hY]
      clear hY
      go_wp2_with fail
      refine bodyPost_ret (v := .tuple #[.string R, .int .i64 0]) (by simp [results, Try.results28, go_sem]) rfl ⟨rfl, BU⟩
theorem get_any (a1 a2 : Option Addr) (k1 k2 n m : Nat) (d : DM.Dk) (i : Int) (w : World) (h : DM.DV w (.slice a1 n k1) (.slice a2 m k2) d) (hn : d.secs.length = n) (hm : d.cache.length = m) (b1 : n ≤ 1000000) (b2 : m ≤ 1000000) :
    Calls Try.prog 28 #[.agg #[.slice a1 n k1, .slice a2 m k2], .int .i64 i] w fun e w' => e = .returned (.tuple #[.string (DM.getB d i), .int .i64 (DM.getE d i)]) ∧ Below w.heap.size w w' := by
  unfold DM.getB DM.getE
  by_cases hok : DM.getOk d i
  · rw [if_pos hok, if_pos hok]
    obtain ⟨hmay, h0, h1⟩ := hok
    obtain ⟨p, rfl⟩ : ∃ p : Nat, i = (p : Int) := ⟨i.toNat, by omega⟩
    have := get_yes a1 a2 k1 k2 n m d p w h hn hm b1 b2 hmay (by omega)
    simpa using this
  · rw [if_neg hok, if_neg hok]
    exact get_no a1 a2 k1 k2 n m d i w h hn hm b1 b2 hok
end DiskW
end Go.Proofs.Ytnoegkhkeeameaa
