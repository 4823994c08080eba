/- The walk of law SumOne, where it makes bytes. -/
import Derived.Test.YtihblpahickhnaaSumWalks
import Derived.Test.YtihblpahickhnaaLib
namespace Go.Proofs.Ytihblpahickhnaa
open Go.RowKit
namespace SumW
theorem swap_list (l : List UInt8) (i : Nat) (h : i + 1 < l.length) :
    (l.set i l[i + 1]).set (i + 1) l[i] = l.take i ++ l[i + 1] :: l[i] :: l.drop (i + 2) := by
  apply List.ext_getElem
  · simp; omega
  · intro j h1 h2
    simp only [List.getElem_set, List.getElem_append, List.length_take, List.getElem_take, List.getElem_cons, List.getElem_drop]
    have hm : min i l.length = i := by omega
    simp only [hm]
    by_cases a : i + 1 = j
    · subst a; simp; intro h; omega
    · by_cases b : i = j
      · subst b; simp
      · by_cases c : j < i
        · simp [a, b, c]
        · rw [if_neg a, if_neg b, dif_neg c, dif_neg (by omega), dif_neg (by omega)]
          congr 1; omega
theorem split_list (l : List UInt8) (i : Nat) (h : i + 1 < l.length) : l = l.take i ++ l[i] :: l[i + 1] :: l.drop (i + 2) := by
  rw [← List.drop_eq_getElem_cons (by omega), ← List.drop_eq_getElem_cons (by omega), List.take_append_drop]
set_option maxHeartbeats 1000000 in
theorem one_walk (s : ByteArray) (i c : Nat) (hs : s.size ≤ 70000) (hi : i < s.size) (hc : c ≤ 255) (w : World) :
    Calls Try.prog 11 #[.string s, .int .i64 i, .int .i64 c] w fun e w' => e = .returned (.bool true) ∧ Below w.heap.size w w' := by
  have hl : s.data.toList.length = s.size := by simp
  have HL := Lib.hid hl; clear hl
  have hu : Hid (((UInt8.ofNat c).toNat : Int) = (c : Int)) := by apply Lib.hid; simp; omega
  obtain ⟨t, ht⟩ : ∃ t, t = s.data.toList.set i (UInt8.ofNat c) := ⟨_, rfl⟩
  have htl : Hid (t.length = s.size) := by apply Lib.hid; rw [ht]; simp
  have HT := Lib.hid ht; clear ht
  obtain ⟨b, e1, e2⟩ : ∃ b : Bool, (SM.rollF 1 t == SM.rollF 1 s.data.toList) = b ∧ (t == s.toList) = b := by
    refine ⟨_, rfl, ?_⟩
    have := SM.set_ne s.data.toList i (by rw [HL.out]; exact hi) (UInt8.ofNat c)
    rw [← HT.out] at this
    rw [Bool.eq_iff_iff, beq_iff_eq, beq_iff_eq, this, ByteArray.toList_eq]
  have Hst : Hid ((⟨t.toArray⟩ : ByteArray).size ≤ maxLen) := by
    apply Lib.hid
    show t.toArray.size ≤ maxLen
    rw [List.size_toArray, htl.out]; unfold maxLen; omega
  have Hss : Hid (s.size ≤ maxLen) := by apply Lib.hid; unfold maxLen; omega
  by_cases hlast' : (i : Int) = s.size - 1
  · have hlast : ((i : Int) == s.size - 1) = true := by simp; exact hlast'
    clear hlast'
    go_enter Try.func11, Try.ntmps11
    go_wp2_with (refine Lib.wpList_bytes_of_string _ rfl 9 57 5 (.tmp 31) rfl Try.underlying9 Try.underlying57 Try.underlying5 s rfl ?_; intro w1 cap hrow hbel hsz; have hcell := hrow.cell i (by rw [HL.out]; exact hi); have hfree := hrow.free i (by rw [HL.out]; exact hi); have HR := Lib.hid hrow; clear hrow; have HB := Lib.hid hbel; clear hbel; have HZ := Lib.hid hsz; clear hsz)
    have hrow2 : Lib.BRow (w1.setCell ⟨w.heap.size, i, none⟩ (.int .u8 c)) w.heap.size t := by
      have := HR.out.set i (by rw [HL.out]; exact hi) (UInt8.ofNat c)
      rw [← HT.out, hu.out] at this
      exact this
    have hcv : ∀ nq, Sem.run Try.prog (convert 57 9 (.slice (some ⟨w.heap.size, 0, none⟩) s.size cap)) ((w1.setCell ⟨w.heap.size, i, none⟩ (.int .u8 c)).drewN nq) = .ok (.string ⟨t.toArray⟩) ((w1.setCell ⟨w.heap.size, i, none⟩ (.int .u8 c)).drewN nq) := by
      intro nq
      have := Lib.run_string_of_row (P := Try.prog) _ 57 9 5 w.heap.size cap t Try.underlying57 Try.underlying5 Try.underlying9 (hrow2.drewN nq)
      rw [htl.out] at this
      exact this
    clear hrow2 hcell hfree
    go_quiet ((go_at_call 34; exact Lib.quiet_left (of_any _ _ (by first | exact Hss.out | exact Hst.out))))
    clear hcv
    go_wp2_with fail
    refine (live_any _).mono ?_; rintro e w' ⟨rfl, rfl⟩
    go_wp2_with fail
    go_ret
    exact ⟨rfl, Lib.below_drewN (HB.out.setCell (Nat.le_refl _) _) _⟩
  · have hn : i + 1 < s.size := by omega
    have hlast : ((i : Int) == s.size - 1) = false := by simp; omega
    clear hlast'
    obtain ⟨y, hy⟩ : ∃ y, y = (s.data.toList.set i s[i + 1]).set (i + 1) s[i] := ⟨_, rfl⟩
    have hyl : Hid (y.length = s.size) := by apply Lib.hid; rw [hy]; simp
    have hy2 : y = s.data.toList.take i ++ s[i + 1] :: s[i] :: s.data.toList.drop (i + 2) := by
      rw [hy]; exact swap_list s.data.toList i (by rw [HL.out]; exact hn)
    have hs2 : s.data.toList = s.data.toList.take i ++ s[i] :: s[i + 1] :: s.data.toList.drop (i + 2) := split_list s.data.toList i (by rw [HL.out]; exact hn)
    obtain ⟨b2, e3, e4⟩ : ∃ b : Bool, (SM.rollF 1 y == SM.rollF 1 s.data.toList) = b ∧ ((s[i].toNat : Int) == (s[i + 1].toNat : Int)) = b := by
      refine ⟨_, rfl, ?_⟩
      have := SM.swap_ne (s.data.toList.take i) (s.data.toList.drop (i + 2)) s[i] s[i + 1]
      rw [← hy2, ← hs2] at this
      rw [Bool.eq_iff_iff, beq_iff_eq, beq_iff_eq, this, ← UInt8.toNat_inj]
      omega
    clear hy2 hs2
    have Hyt : Hid ((⟨y.toArray⟩ : ByteArray).size ≤ maxLen) := by
      apply Lib.hid
      show y.toArray.size ≤ maxLen
      rw [List.size_toArray, hyl.out]; unfold maxLen; omega
    have HY := Lib.hid hy; clear hy
    go_enter Try.func11, Try.ntmps11
    go_wp2_with (refine Lib.wpList_bytes_of_string _ rfl 9 57 5 (.tmp 31) rfl Try.underlying9 Try.underlying57 Try.underlying5 s rfl ?_; intro w1 cap hrow hbel hsz; have hcell := hrow.cell i (by rw [HL.out]; exact hi); have hfree := hrow.free i (by rw [HL.out]; exact hi); have HR := Lib.hid hrow; clear hrow; have HB := Lib.hid hbel; clear hbel; have HZ := Lib.hid hsz; clear hsz)
    have hrow2 : Lib.BRow (w1.setCell ⟨w.heap.size, i, none⟩ (.int .u8 c)) w.heap.size t := by
      have := HR.out.set i (by rw [HL.out]; exact hi) (UInt8.ofNat c)
      rw [← HT.out, hu.out] at this
      exact this
    have hcv : ∀ nq, Sem.run Try.prog (convert 57 9 (.slice (some ⟨w.heap.size, 0, none⟩) s.size cap)) ((w1.setCell ⟨w.heap.size, i, none⟩ (.int .u8 c)).drewN nq) = .ok (.string ⟨t.toArray⟩) ((w1.setCell ⟨w.heap.size, i, none⟩ (.int .u8 c)).drewN nq) := by
      intro nq
      have := Lib.run_string_of_row (P := Try.prog) _ 57 9 5 w.heap.size cap t Try.underlying57 Try.underlying5 Try.underlying9 (hrow2.drewN nq)
      rw [htl.out] at this
      exact this
    clear hrow2 hcell hfree
    go_quiet ((go_at_call 34; exact Lib.quiet_left (of_any _ _ (by first | exact Hss.out | exact Hst.out))))
    clear hcv
    have HBW : Hid (Below w.heap.size w ((w1.setCell ⟨w.heap.size, i, none⟩ (.int .u8 c)).drewN nq)) := Lib.hid (Lib.below_drewN (HB.out.setCell (Nat.le_refl _) _) _)
    generalize hW : (w1.setCell ⟨w.heap.size, i, none⟩ (.int .u8 c)).drewN nq = W at *
    clear hW HR HB HZ
    go_wp2_with (refine Lib.wpList_bytes_of_string _ rfl 9 57 5 (.tmp 55) rfl Try.underlying9 Try.underlying57 Try.underlying5 s rfl ?_; intro w3 cap3 hrow hbel hsz; have hcell3 := hrow.cell i (by rw [HL.out]; exact hi); have hfree3 := hrow.free i (by rw [HL.out]; exact hi); have hcell4 := hrow.cell (i + 1) (by rw [HL.out]; exact hn); have hfree4 := hrow.free (i + 1) (by rw [HL.out]; exact hn); have HR3 := Lib.hid hrow; clear hrow; have HB3 := Lib.hid hbel; clear hbel; have HZ3 := Lib.hid hsz; clear hsz)
    have hrow5 : Lib.BRow ((w3.setCell ⟨W.heap.size, i, none⟩ (.int .u8 s[i + 1].toNat)).setCell ⟨W.heap.size, i + 1, none⟩ (.int .u8 s[i].toNat)) W.heap.size y := by
      have := (HR3.out.set i (by rw [HL.out]; exact hi) s[i + 1]).set (i + 1) (by rw [List.length_set, HL.out]; exact hn) s[i]
      rw [← HY.out] at this
      exact this
    have HB5 : Hid (Below w.heap.size w ((w3.setCell ⟨W.heap.size, i, none⟩ (.int .u8 s[i + 1].toNat)).setCell ⟨W.heap.size, i + 1, none⟩ (.int .u8 s[i].toNat))) :=
      Lib.hid (((HBW.out.trans (HB3.out.mono HBW.out.size)).setCell HBW.out.size _).setCell HBW.out.size _)
    generalize hW5 : (w3.setCell ⟨W.heap.size, i, none⟩ (.int .u8 s[i + 1].toNat)).setCell ⟨W.heap.size, i + 1, none⟩ (.int .u8 s[i].toNat) = W5 at *
    clear hW5 hcell3 hcell4 hfree3 hfree4 HR3 HB3 HZ3
    have hcv : ∀ nq, Sem.run Try.prog (convert 57 9 (.slice (some ⟨W.heap.size, 0, none⟩) s.size cap3)) (W5.drewN nq) = .ok (.string ⟨y.toArray⟩) (W5.drewN nq) := by
      intro nq
      have := Lib.run_string_of_row (P := Try.prog) _ 57 9 5 W.heap.size cap3 y Try.underlying57 Try.underlying5 Try.underlying9 (hrow5.drewN nq)
      rw [hyl.out] at this
      exact this
    clear hrow5
    have hi1 : (i : Int) + 1 < s.size := by omega
    go_quiet ((first
      | (go_at_call 33; exact Lib.quiet_left (live_any _))
      | (go_at_call 34; exact Lib.quiet_left (of_any _ _ (by first | exact Hss.out | exact Hyt.out)))))
    go_wp2_with fail
    go_ret
    exact ⟨rfl, Lib.below_drewN HB5.out _⟩
end SumW
end Go.Proofs.Ytihblpahickhnaa
