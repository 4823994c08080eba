/- The walk of the law on sectors of which one byte is changed. -/
import Derived.Test.YtgijhddmadaplaaRecJ
import Derived.Test.YtgijhddmadaplaaRecBackM
import Derived.RegionTactic
import Derived.BigRegion
import Derived.ChangeAlike
import Derived.Laws.BitsAllLaws
namespace Go.Proofs.Ytgijhddmadaplaa
open Go.RowKit
namespace RM
theorem ofNat_nat (n : Nat) (h : n < 256) : (UInt8.ofNat n).toNat = n := by simp [Nat.mod_eq_of_lt h]
theorem getD_is (l : List UInt8) (i : Nat) (h : i < l.length) : l.getD i 0 = l[i] := by simp [List.getD, List.getElem?_eq_getElem h]
theorem SV.set {w : World} {b off n cap : Nat} {l : List ByteArray} (h : SV w (.slice (some ⟨b, off, none⟩) n cap) l) (i : Nat) (hi : i < l.length) (x : ByteArray) : SV (w.setCell ⟨b, off + i, none⟩ (.string x)) (.slice (some ⟨b, off, none⟩) n cap) (l.set i x) := by
  obtain ⟨a, cap2, h1, h2⟩ := h
  simp only [Value.slice.injEq] at h1
  obtain ⟨rfl, rfl, rfl⟩ := h1
  refine ⟨some ⟨b, off, none⟩, cap, by rw [List.length_set], fun _ => ?_⟩
  obtain ⟨b2, off2, h3, h4, h5⟩ := h2 (by omega)
  simp only [Option.some.injEq, Addr.mk.injEq] at h3
  obtain ⟨rfl, rfl, _⟩ := h3
  refine ⟨b, off, rfl, by simpa using h4, fun j hj => ?_⟩
  have hj' : j < l.length := by simpa using hj
  by_cases e : i = j
  · subst e
    rw [World.cell?_setCell_same _ _ _ (h5 i hi), List.getElem_set_self]
  · rw [World.cell?_setCell_other _ _ _ _ (by simp; try omega), h5 j hj', List.getElem_set_ne e]
theorem sv_own {w : World} {base : Nat} {T : TypeId} {v : Value} {l : List ByteArray} {n : Nat} (h : w.ownsRow base T 1 v n (l.map Value.string)) (hl : l.length = n) (hn : 0 < n) : ∃ g cap, v = .slice (some ⟨g, 0, none⟩) n cap ∧ base ≤ g ∧ g < w.heap.size ∧ w.cell? ⟨g, 0, none⟩ = some (.string (l[0]'(by omega))) ∧ w.frozen? ⟨g, 0, none⟩ = false ∧ SV w (.slice (some ⟨g, 0, none⟩) n cap) l := by
  obtain ⟨g, cap, cur, rfl, hb, h3, _⟩ := h.2.resolve_left (by rintro ⟨_, h⟩; omega)
  have hs := SV.of_owns hl.symm h
  refine ⟨g, cap, rfl, hb, (Array.getElem?_eq_some_iff.1 h3).1, ?_, h.frozenAt 0, hs⟩
  rw [h.cellAt 0 (by omega)]
  simp [show 0 < l.length from by omega]
theorem cutL_get0 (s : ByteArray) (h : 0 < (cutL s).length) : (cutL s)[0] = sec s 0 := by simp [cutL]
theorem readV_agg2 (s : ByteArray) : ∃ a b c d e : Int, readV s = hd a b c d e := by
  unfold readV
  split
  · exact ⟨_, _, _, _, _, rfl⟩
  · exact ⟨_, _, _, _, _, rfl⟩
end RM
namespace RecW
set_option maxHeartbeats 6400000 in
set_option maxRecDepth 100000 in
theorem spoilt_out (w : World) (k g q z m : Int) (s : ByteArray) (a0 a1 : Int) (hm : -9223372036854775808 ≤ m ∧ m ≤ 9223372036854775807)
    (hc : ¬ RM.may k g q z m ∨ (200 : Int) < (s.size : Int) ∨ a0 < 0 ∨ 31 < a0 ∨ a1 < 1 ∨ 255 < a1) :
    Calls Try.prog 4 #[.agg #[.int .i64 k, .int .i64 g, .int .i64 q, .int .i64 z, .int .i64 m], .string s, .agg #[.int .i64 a0, .int .i64 a1]] w fun e w' => e = .returned (.bool true) ∧ Below w.heap.size w w' := by
  obtain ⟨y, hy⟩ : ∃ y, decide (RM.may k g q z m) = y := ⟨_, rfl⟩
  obtain ⟨X, hX⟩ : ∃ X, RM.textB k g q z m = X := ⟨_, rfl⟩
  have C6 : Hid (∀ w, Calls Try.prog 20 #[.agg #[.int .i64 k, .int .i64 g, .int .i64 q, .int .i64 z, .int .i64 m]] w fun e w' => e = .returned (.tuple #[.string X, .bool y]) ∧ Below w.heap.size w w') := Lib.hid (fun w => by
    have h := text_any k g q z m w hm
    rw [hX, hy] at h
    exact h)
  have hc2 : y = false ∨ (y = true ∧ (200 : Int) < (s.size : Int)) ∨ (y = true ∧ ¬ (200 : Int) < (s.size : Int) ∧ a0 < 0) ∨ (y = true ∧ ¬ (200 : Int) < (s.size : Int) ∧ ¬ a0 < 0 ∧ 31 < a0) ∨ (y = true ∧ ¬ (200 : Int) < (s.size : Int) ∧ ¬ a0 < 0 ∧ ¬ 31 < a0 ∧ a1 < 1) ∨ (y = true ∧ ¬ (200 : Int) < (s.size : Int) ∧ ¬ a0 < 0 ∧ ¬ 31 < a0 ∧ ¬ a1 < 1 ∧ 255 < a1) := by
    cases y
    · exact Or.inl rfl
    · have := of_decide_eq_true hy
      rcases hc with h | h
      · exact absurd this h
      · by_cases h1 : (200 : Int) < (s.size : Int)
        · exact Or.inr (Or.inl ⟨rfl, h1⟩)
        by_cases h2 : a0 < 0
        · exact Or.inr (Or.inr (Or.inl ⟨rfl, h1, h2⟩))
        by_cases h3 : 31 < a0
        · exact Or.inr (Or.inr (Or.inr (Or.inl ⟨rfl, h1, h2, h3⟩)))
        by_cases h4 : a1 < 1
        · exact Or.inr (Or.inr (Or.inr (Or.inr (Or.inl ⟨rfl, h1, h2, h3, h4⟩))))
        · exact Or.inr (Or.inr (Or.inr (Or.inr (Or.inr ⟨rfl, h1, h2, h3, h4, by omega⟩))))
  clear hc hX hy hm
  rcases hc2 with rfl | ⟨rfl, h1⟩ | ⟨rfl, h1, h2⟩ | ⟨rfl, h1, h2, h3⟩ | ⟨rfl, h1, h2, h3, h4⟩ | ⟨rfl, h1, h2, h3, h4, h5⟩
  all_goals
    go_enter Try.func4, Try.ntmps4
    go_wp2_with fail
    refine (C6.out _).mono ?_; rintro e w1 ⟨rfl, b1⟩
    have p0 : w1.cell? ⟨w.heap.size + 1, 0, none⟩ = some (.int .i64 a0) := (b1.cell (by simp)).trans (by go_simp)
    have p1 : w1.cell? ⟨w.heap.size + 1, 1, none⟩ = some (.int .i64 a1) := (b1.cell (by simp)).trans (by go_simp)
    have B1 : Below w.heap.size w w1 := (((Below.refl _ _).alloc (Nat.le_refl _) _).alloc (by simp) _).trans (b1.mono (by simp; omega))
    clear b1
    go_wp2_with fail
    refine (live_any _).mono ?_; rintro e w2 ⟨rfl, b2⟩
    have B2 : Below w.heap.size w w2 := B1.trans (b2.mono B1.size)
    go_wp2_with fail
    go_ret
    exact ⟨rfl, B2⟩
set_option maxHeartbeats 6400000 in
set_option maxRecDepth 100000 in
theorem spoilt_in (w : World) (k g q z m : Int) (s : ByteArray) (i x : Nat) (hm : -9223372036854775808 ≤ m ∧ m ≤ 9223372036854775807) (hy : RM.may k g q z m) (hs : s.size ≤ 200) (hi : i ≤ 31) (hx1 : 1 ≤ x) (hx2 : x ≤ 255) :
    Calls Try.prog 4 #[.agg #[.int .i64 k, .int .i64 g, .int .i64 q, .int .i64 z, .int .i64 m], .string s, .agg #[.int .i64 (i : Int), .int .i64 (x : Int)]] w fun e w' => e = .returned (.bool true) ∧ Below w.heap.size w w' := by
  obtain ⟨X, hX⟩ : ∃ X, RM.textB k g q z m = X := ⟨_, rfl⟩
  have hXs : X = RM.str (RM.textL k g q z m) := by rw [← hX, RM.textB_yes _ _ _ _ _ hy]
  have hXl : X.data.toList.length = 32 := by rw [hXs]; rfl
  have hXz : X.size = 32 := by rw [hXs]; rfl
  have C6 : Hid (∀ w, Calls Try.prog 20 #[.agg #[.int .i64 k, .int .i64 g, .int .i64 q, .int .i64 z, .int .i64 m]] w fun e w' => e = .returned (.tuple #[.string X, .bool true]) ∧ Below w.heap.size w w') := Lib.hid (fun w => by
    have h := text_any k g q z m w hm
    rw [hX, decide_eq_true hy] at h
    exact h)
  have HL := Lib.hid hXl; clear hXl
  have HXS := Lib.hid hXs; clear hXs hX
  have HXZ := Lib.hid hXz
  have hi0 : (0 : Int) ≤ (i : Int) := by omega
  have hi1 : ¬ (31 : Int) < (i : Int) := by omega
  have hi2 : ¬ (i : Int) < 0 := by omega
  have hx3 : ¬ (x : Int) < 1 := by omega
  have hx4 : ¬ (255 : Int) < (x : Int) := by omega
  have hs3 : ¬ (200 : Int) < (s.size : Int) := by omega
  have hi3 : i < X.size := by omega
  have hi4 : (i : Int) < 32 := by omega
  obtain ⟨b0, hb0⟩ : ∃ b, X.data.toList[i]'(by rw [HL.out]; omega) = b := ⟨_, rfl⟩
  have HB0 := Lib.hid hb0; clear hb0
  obtain ⟨cc, hcc⟩ : ∃ c, c = UInt8.ofNat (b0.toNat ^^^ x) := ⟨_, rfl⟩
  have hbx : bits .xor .u8 (b0.toNat : Int) (x : Int) = (cc.toNat : Int) := by
    rw [u8_xor_nat b0.toNat x (UInt8.toNat_lt _) (by omega), hcc, RM.ofNat_nat _ (RM.xor_lt b0.toNat x (UInt8.toNat_lt _) (by omega))]
  obtain ⟨t, ht⟩ : ∃ t, t = RM.turned X i x := ⟨_, rfl⟩
  have HT : Hid (X.data.toList.set i cc = t) := Lib.hid (by
    rw [ht, hcc]
    unfold RM.turned
    rw [RM.getD_is X.data.toList i (by rw [HL.out]; omega), HB0.out])
  have htl : Hid (t.length = 32) := Lib.hid (by rw [ht, RM.turned_length, hXz])
  obtain ⟨ra, rb, rc, rd, re, hr⟩ := RM.readV_agg2 (RM.str t)
  obtain ⟨x2, hx2'⟩ : ∃ x, decide (RM.readOk (RM.str t)) = x := ⟨_, rfl⟩
  have C7 : Hid (∀ w, Calls Try.prog 19 #[.string ⟨t.toArray⟩] w fun e w' => e = .returned (.tuple #[.agg #[.int .i64 ra, .int .i64 rb, .int .i64 rc, .int .i64 rd, .int .i64 re], .bool x2]) ∧ Below w.heap.size w w') := Lib.hid (fun w => by
    have h := read_any (RM.str t) w
    rw [hr, hx2'] at h
    exact h)
  have hne : Hid (x2 = true → ¬ (ra = k ∧ rb = g ∧ rc = q ∧ rd = z ∧ re = m)) := Lib.hid (by
    rintro rfl ⟨rfl, rfl, rfl, rfl, rfl⟩
    rw [ht] at hx2' hr
    exact RM.turned_head X _ _ _ _ _ i x HXS.out (by omega) hx1 (by omega) (of_decide_eq_true hx2') hr)
  clear hr hx2'
  have HCC := Lib.hid hcc; clear hcc
  have HTT := Lib.hid ht; clear ht
  have hxw : IntKind.u8.wrap (x : Int) = (x : Int) := by rw [IntKind.wrap_u8]; omega
  go_enter Try.func4, Try.ntmps4
  go_wp2_with fail
  refine (C6.out _).mono ?_; rintro e w1 ⟨rfl, b1⟩
  have p0 : w1.cell? ⟨w.heap.size + 1, 0, none⟩ = some (.int .i64 i) := (b1.cell (by simp)).trans (by go_simp)
  have p1 : w1.cell? ⟨w.heap.size + 1, 1, none⟩ = some (.int .i64 x) := (b1.cell (by simp)).trans (by go_simp)
  have K1 : Hid (Hat w1 w.heap.size k g q z m) := Lib.hid (Hat.below ⟨by simp; omega, by go_simp, by go_simp, by go_simp, by go_simp, by go_simp⟩ b1)
  have s1 : w.heap.size + 1 < w1.heap.size := by have := b1.size; simp at this; omega
  have B1 : Below w.heap.size w w1 := (((Below.refl _ _).alloc (Nat.le_refl _) _).alloc (by simp) _).trans (b1.mono (by simp; omega))
  clear b1
  go_wp2_with (refine Lib.wpList_bytes_of_string _ rfl 9 36 5 (.tmp 49) rfl Try.underlying9 Try.underlying36 Try.underlying5 X rfl ?_; intro w2 cap hrow hbel hsz; have hcell := hrow.cell i (by rw [HL.out]; omega); rw [HB0.out] at hcell; have hfree := hrow.free i (by rw [HL.out]; omega); have HR := Lib.hid hrow; clear hrow; have HB := Lib.hid hbel; clear hbel; have HZ := Lib.hid hsz; clear hsz)
  have q0 : w2.cell? ⟨w.heap.size + 1, 0, none⟩ = some (.int .i64 i) := (HB.out.cell (p := ⟨w.heap.size + 1, 0, none⟩) s1).trans p0
  have q1 : w2.cell? ⟨w.heap.size + 1, 1, none⟩ = some (.int .i64 x) := (HB.out.cell (p := ⟨w.heap.size + 1, 1, none⟩) s1).trans p1
  clear p0 p1
  go_region
  have hrow2 : Lib.BRow (w2.setCell ⟨w1.heap.size, i, none⟩ (.int .u8 cc.toNat)) w1.heap.size t := by
    have := HR.out.set i (by rw [HL.out]; omega) cc
    rw [HT.out] at this
    exact this
  have hrow3 : Lib.BRow (w2.setCell ⟨w1.heap.size, i, none⟩ (.int .u8 cc.toNat)).drew w1.heap.size t := ⟨hrow2.cell, hrow2.free⟩
  have K3 : Hid (Hat (w2.setCell ⟨w1.heap.size, i, none⟩ (.int .u8 cc.toNat)).drew w.heap.size k g q z m) := Lib.hid (K1.out.below ((HB.out.setCell (Nat.le_refl _) _).drew))
  have B3 : Below w.heap.size w (w2.setCell ⟨w1.heap.size, i, none⟩ (.int .u8 cc.toNat)).drew := B1.trans (((HB.out.setCell (Nat.le_refl _) _).drew).mono B1.size)
  have r0 : (w2.setCell ⟨w1.heap.size, i, none⟩ (.int .u8 cc.toNat)).drew.cell? ⟨w.heap.size + 1, 0, none⟩ = some (.int .i64 i) := ((((Below.refl w1.heap.size w2).setCell (Nat.le_refl _) _).drew).cell (p := ⟨w.heap.size + 1, 0, none⟩) s1).trans q0
  have r1 : (w2.setCell ⟨w1.heap.size, i, none⟩ (.int .u8 cc.toNat)).drew.cell? ⟨w.heap.size + 1, 1, none⟩ = some (.int .i64 x) := ((((Below.refl w1.heap.size w2).setCell (Nat.le_refl _) _).drew).cell (p := ⟨w.heap.size + 1, 1, none⟩) s1).trans q1
  have s3 : w.heap.size + 1 < (w2.setCell ⟨w1.heap.size, i, none⟩ (.int .u8 cc.toNat)).drew.heap.size := by have := HZ.out; simp; omega
  generalize hW : (w2.setCell ⟨w1.heap.size, i, none⟩ (.int .u8 cc.toNat)).drew = W at *
  clear hW hrow2 hcell hfree HR HB HZ q0 q1 B1
  have hcv : Sem.run Try.prog (convert 36 9 (.slice (some ⟨w1.heap.size, 0, none⟩) 32 cap)) W = .ok (.string ⟨t.toArray⟩) W := by
    have := Lib.run_string_of_row (P := Try.prog) _ 36 9 5 w1.heap.size cap t Try.underlying36 Try.underlying5 Try.underlying9 hrow3
    rw [htl.out] at this
    exact this
  have HC := Lib.hid hcv
  clear hrow3
  go_wp2_with fail
  refine (C7.out _).mono ?_; rintro e w4 ⟨rfl, b4⟩
  have K4 : Hid (Hat w4 w.heap.size k g q z m) := Lib.hid (K3.out.below b4)
  have B4 : Below w.heap.size w w4 := B3.trans (b4.mono B3.size)
  have u0 : w4.cell? ⟨w.heap.size + 1, 0, none⟩ = some (.int .i64 i) := (b4.cell (p := ⟨w.heap.size + 1, 0, none⟩) s3).trans r0
  have u1 : w4.cell? ⟨w.heap.size + 1, 1, none⟩ = some (.int .i64 x) := (b4.cell (p := ⟨w.heap.size + 1, 1, none⟩) s3).trans r1
  have s4 : w.heap.size + 1 < w4.heap.size := by have := b4.size; omega
  clear b4 K3 B3 r0 r1 hcv s3
  obtain ⟨_, p0, p1, p2, p3, p4⟩ := K4.out
  have hml : Hid (s.size ≤ maxLen) := Lib.hid (by unfold maxLen; omega)
  obtain ⟨N, hNn⟩ : ∃ N, RM.cutN s = N := ⟨_, rfl⟩
  have hlen : Hid ((RM.cutL s).length = N) := Lib.hid (by rw [RM.cutL_length, hNn])
  have HN := Lib.hid hNn; clear hNn
  have hsN : Hid (RM.cutN s = (s.size + 30) / 31) := Lib.hid (RM.cutN_small s (by omega))
  obtain ⟨S0, hS0⟩ : ∃ S0, RM.sec s 0 = S0 := ⟨_, rfl⟩
  have hS0z : S0.size = 32 := by rw [← hS0]; exact RM.sec_size s 0
  have HS0l : Hid (S0.data.toList.length = 32) := Lib.hid (by simpa using hS0z)
  obtain ⟨b1, hb1⟩ : ∃ b, S0.data.toList[i]'(by rw [HS0l.out]; omega) = b := ⟨_, rfl⟩
  have HB1 := Lib.hid hb1; clear hb1
  obtain ⟨cd, hcd⟩ : ∃ c, c = UInt8.ofNat (b1.toNat ^^^ x) := ⟨_, rfl⟩
  have hbx2 : bits .xor .u8 (b1.toNat : Int) (x : Int) = (cd.toNat : Int) := by
    rw [u8_xor_nat b1.toNat x (UInt8.toNat_lt _) (by omega), hcd, RM.ofNat_nat _ (RM.xor_lt b1.toNat x (UInt8.toNat_lt _) (by omega))]
  obtain ⟨t2, ht2⟩ : ∃ t, t = RM.turned S0 i x := ⟨_, rfl⟩
  have HT2 : Hid (S0.data.toList.set i cd = t2) := Lib.hid (by
    rw [ht2, hcd]
    unfold RM.turned
    rw [RM.getD_is S0.data.toList i (by rw [HS0l.out]; omega), HB1.out])
  have htl2 : Hid (t2.length = 32) := Lib.hid (by rw [ht2, RM.turned_length, hS0z])
  obtain ⟨x4, hx4'⟩ : ∃ y, decide (RM.joinOk ((RM.cutL s).set 0 ⟨t2.toArray⟩) (s.size : Int)) = y := ⟨_, rfl⟩
  obtain ⟨TJ, hTJ⟩ : ∃ T, RM.joinB ((RM.cutL s).set 0 ⟨t2.toArray⟩) (s.size : Int) = T := ⟨_, rfl⟩
  have C8 : Hid (∀ w v, RM.SV w v ((RM.cutL s).set 0 ⟨t2.toArray⟩) → Calls Try.prog 18 #[v, .int .i64 (s.size : Int)] w fun e w' => e = .returned (.tuple #[.string TJ, .bool x4]) ∧ Below w.heap.size w w') := Lib.hid (fun w v hv => by
    have h := join_any ((RM.cutL s).set 0 ⟨t2.toArray⟩) v (s.size : Int) w hv (by rw [List.length_set, hlen.out]; have := RM.cutN_le s; have := HN.out; omega) (by omega)
    rw [hTJ, hx4'] at h
    exact h)
  have hne2 : Hid (x4 = true → 0 < N → (!TJ.toList == s.toList) = true) := Lib.hid (by
    intro h1 h2
    have h3 := of_decide_eq_true (hx4'.trans h1)
    rw [ht2, ← hS0] at h3
    have h4 := RM.turned_join s i x (by omega) hx1 (by omega) (by rw [hlen.out]; exact h2) h3
    rw [hS0] at h4
    rw [ht2] at hTJ
    have h5 : TJ ≠ s := by rw [← hTJ]; exact h4
    have h6 : ¬ TJ.toList = s.toList := fun h => h5 (RM.bytes_ext h)
    simpa using h6)
  have HS0 := Lib.hid hS0; clear hS0
  clear hx4' hTJ hcd ht2
  cases x2
  all_goals
    go_wp2_with fail
  any_goals (first | ((refine (hne.out trivial ⟨?_, ?_, ?_, ?_, ?_⟩).elim) <;> assumption) | fail)
  all_goals
    refine (cut_any s _ hml.out).mono ?_; rintro e w5 ⟨v, rfl, hown, b5⟩
    rw [HN.out] at hown
    rcases Nat.eq_zero_or_pos N with hN0 | hN0
    · have hz0 : s.size = 0 := by have := HN.out; have := hsN.out; omega
      have he : s = ⟨#[]⟩ := by apply ByteArray.ext; exact Array.eq_empty_of_size_eq_zero hz0
      obtain ⟨a, cap3, rfl, hcl⟩ := sv_len hlen.out (RM.SV.of_owns hlen.out.symm hown)
      clear hcl
      subst hN0
      have B5 : Below w.heap.size w w5 := (B4.trans ((Below.refl _ _).alloc B4.size _)).trans (b5.mono (by have := B4.size; simp; omega))
      clear hown b5 p0 p1 p2 p3 p4 u0 u1
      have HE := Lib.hid he
      have he2 : s.toList = [] := by rw [he, ByteArray.toList_eq]
      have he3 : s.toList.isEmpty = true := by rw [he2]; rfl
      clear he hz0
      go_wp2_with fail
      refine (live_any _).mono ?_; rintro e w6 ⟨rfl, b6⟩
      have B6 : Below w.heap.size w w6 := B5.trans (b6.mono B5.size)
      go_wp2_with fail
      go_ret
      exact ⟨rfl, B6⟩
    · obtain ⟨gb, cap3, rfl, hgb, hg5, x5, f5, SV5⟩ := RM.sv_own hown hlen.out hN0
      have SV5 := Lib.hid SV5
      have hgb2 : w.heap.size + 1 < gb := by simp at hgb; omega
      rw [RM.cutL_get0 s (by rw [hlen.out]; exact hN0), HS0.out] at x5
      have B5 : Below w.heap.size w w5 := (B4.trans ((Below.refl _ _).alloc B4.size _)).trans (b5.mono (by have := B4.size; simp; omega))
      have v0 : w5.cell? ⟨w.heap.size + 1, 0, none⟩ = some (.int .i64 i) := (b5.cell (p := ⟨w.heap.size + 1, 0, none⟩) (by simp; omega)).trans (by go_simp)
      have v1 : w5.cell? ⟨w.heap.size + 1, 1, none⟩ = some (.int .i64 x) := (b5.cell (p := ⟨w.heap.size + 1, 1, none⟩) (by simp; omega)).trans (by go_simp)
      have s5 : w.heap.size + 1 < w5.heap.size := by omega
      have hNi : (0 : Int) < (N : Int) := by omega
      clear hown b5 p0 p1 p2 p3 p4 u0 u1 B4 s4 K4 hgb
      go_wp2_with (refine Lib.wpList_bytes_of_string _ rfl 9 36 5 (.tmp 93) rfl Try.underlying9 Try.underlying36 Try.underlying5 S0 rfl ?_; intro w6 cap4 hrow hbel hsz; have hcell := hrow.cell i (by rw [HS0l.out]; omega); rw [HB1.out] at hcell; have hfree := hrow.free i (by rw [HS0l.out]; omega); have HR := Lib.hid hrow; clear hrow; have HB := Lib.hid hbel; clear hbel; have HZ := Lib.hid hsz; clear hsz)
      have q0 : w6.cell? ⟨w.heap.size + 1, 0, none⟩ = some (.int .i64 i) := (HB.out.cell (p := ⟨w.heap.size + 1, 0, none⟩) s5).trans v0
      have q1 : w6.cell? ⟨w.heap.size + 1, 1, none⟩ = some (.int .i64 x) := (HB.out.cell (p := ⟨w.heap.size + 1, 1, none⟩) s5).trans v1
      clear v0 v1 x5
      go_region
      have hrow2 : Lib.BRow (w6.setCell ⟨w5.heap.size, i, none⟩ (.int .u8 cd.toNat)) w5.heap.size t2 := by
        have := HR.out.set i (by rw [HS0l.out]; omega) cd
        rw [HT2.out] at this
        exact this
      have hrow3 : Lib.BRow (w6.setCell ⟨w5.heap.size, i, none⟩ (.int .u8 cd.toNat)).drew w5.heap.size t2 := ⟨hrow2.cell, hrow2.free⟩
      have BW : Below w5.heap.size w5 (w6.setCell ⟨w5.heap.size, i, none⟩ (.int .u8 cd.toNat)).drew := (HB.out.setCell (Nat.le_refl _) _).drew
      generalize hW : (w6.setCell ⟨w5.heap.size, i, none⟩ (.int .u8 cd.toNat)).drew = W6 at *
      clear hW hrow2 hcell hfree HR HB HZ q0 q1
      have SV6 := Lib.hid (SV5.out.below BW)
      have B6 : Below w.heap.size w W6 := B5.trans (BW.mono B5.size)
      have f6 : W6.frozen? ⟨gb, 0, none⟩ = false := (BW.frozen (p := ⟨gb, 0, none⟩) hg5).trans f5
      have x6 : ∃ v, W6.cell? ⟨gb, 0, none⟩ = some v := by
        obtain ⟨a9, c9, h1, h2⟩ := SV6.out
        simp only [Value.slice.injEq] at h1
        obtain ⟨b9, o9, h3, h4, h5⟩ := h2 (by rw [hlen.out]; exact hN0)
        rw [← h1.1] at h3
        simp only [Option.some.injEq, Addr.mk.injEq] at h3
        obtain ⟨rfl, rfl, _⟩ := h3
        exact ⟨_, h5 0 (by rw [hlen.out]; exact hN0)⟩
      obtain ⟨v6, x6⟩ := x6
      have hcv : Sem.run Try.prog (convert 36 9 (.slice (some ⟨w5.heap.size, 0, none⟩) 32 cap4)) W6 = .ok (.string ⟨t2.toArray⟩) W6 := by
        have := Lib.run_string_of_row (P := Try.prog) _ 36 9 5 w5.heap.size cap4 t2 Try.underlying36 Try.underlying5 Try.underlying9 hrow3
        rw [htl2.out] at this
        exact this
      clear hrow3 BW f5
      have SV7 : Hid (RM.SV (W6.setCell ⟨gb, 0, none⟩ (.string ⟨t2.toArray⟩)) (.slice (some ⟨gb, 0, none⟩) N cap3) ((RM.cutL s).set 0 ⟨t2.toArray⟩)) := Lib.hid (SV6.out.set 0 (by rw [hlen.out]; exact hN0) _)
      have B7 : Below w.heap.size w (W6.setCell ⟨gb, 0, none⟩ (.string ⟨t2.toArray⟩)) := B6.setCell (by show w.heap.size ≤ gb; omega) _
      go_wp2_with fail
      refine (C8.out _ _ SV7.out).mono ?_; rintro e w8 ⟨rfl, b8⟩
      have B8 : Below w.heap.size w w8 := B7.trans (b8.mono B7.size)
      clear b8 SV7 SV6 SV5 hcv f6 x6 B7 B6
      cases x4
      · go_wp2_with fail
        refine (live_any _).mono ?_; rintro e w9 ⟨rfl, b9⟩
        have B9 : Below w.heap.size w w9 := B8.trans (b9.mono B8.size)
        go_wp2_with fail
        go_ret
        exact ⟨rfl, B9⟩
      · have hd2 : (!TJ.toList == s.toList) = true := hne2.out (by trivial) hN0
        go_wp2_with fail
        refine (live_any _).mono ?_; rintro e w9 ⟨rfl, b9⟩
        have B9 : Below w.heap.size w w9 := B8.trans (b9.mono B8.size)
        go_wp2_with fail
        go_ret
        exact ⟨rfl, B9⟩
theorem spoilt_walk (w : World) (k g q z m : Int) (s : ByteArray) (a0 a1 : Int) (hm : -9223372036854775808 ≤ m ∧ m ≤ 9223372036854775807) :
    Calls Try.prog 4 #[.agg #[.int .i64 k, .int .i64 g, .int .i64 q, .int .i64 z, .int .i64 m], .string s, .agg #[.int .i64 a0, .int .i64 a1]] w fun e w' => e = .returned (.bool true) ∧ Below w.heap.size w w' := by
  by_cases hc : ¬ RM.may k g q z m ∨ (200 : Int) < (s.size : Int) ∨ a0 < 0 ∨ 31 < a0 ∨ a1 < 1 ∨ 255 < a1
  · exact spoilt_out w k g q z m s a0 a1 hm hc
  · have h1 : RM.may k g q z m := Classical.byContradiction fun h => hc (Or.inl h)
    have h2 : ¬ ((200 : Int) < (s.size : Int) ∨ a0 < 0 ∨ 31 < a0 ∨ a1 < 1 ∨ 255 < a1) := fun h => hc (Or.inr h)
    obtain ⟨i, rfl⟩ : ∃ i : Nat, a0 = (i : Int) := ⟨a0.toNat, by omega⟩
    obtain ⟨x, rfl⟩ : ∃ i : Nat, a1 = (i : Int) := ⟨a1.toNat, by omega⟩
    exact spoilt_in w k g q z m s i x hm h1 (by omega) (by omega) (by omega) (by omega)
end RecW
end Go.Proofs.Ytgijhddmadaplaa
