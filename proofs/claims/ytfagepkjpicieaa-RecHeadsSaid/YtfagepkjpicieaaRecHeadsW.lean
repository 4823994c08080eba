/- The walk of the law on heads. -/
import Derived.Test.YtfagepkjpicieaaRecJ
namespace Go.Proofs.Ytfagepkjpicieaa
open Go.RowKit
namespace RM
theorem readV_agg (s : ByteArray) : ∃ a b c d e : Int, readV s = .agg #[.int .i64 a, .int .i64 b, .int .i64 c, .int .i64 d, .int .i64 e] := by
  unfold readV
  split
  · exact ⟨_, _, _, _, _, rfl⟩
  · exact ⟨_, _, _, _, _, rfl⟩
theorem makeV_agg (k g q : Int) (s : ByteArray) : ∃ a b c d e : Int, makeV k g q s = .agg #[.int .i64 a, .int .i64 b, .int .i64 c, .int .i64 d, .int .i64 e] := by
  unfold makeV
  split
  · exact ⟨_, _, _, _, _, rfl⟩
  · exact ⟨_, _, _, _, _, rfl⟩
end RM
namespace RecW
set_option maxHeartbeats 6400000 in
set_option maxRecDepth 100000 in
theorem heads_walk (w : World) (k g q z m : Int) (s : ByteArray) (hb : -9223372036854775808 ≤ m ∧ m ≤ 9223372036854775807) (hs : s.size ≤ maxLen) :
    Calls Try.prog 3 #[.agg #[.int .i64 k, .int .i64 g, .int .i64 q, .int .i64 z, .int .i64 m], .string s] w fun e w' => e = .returned (.bool true) ∧ Below w.heap.size w w' := by
  obtain ⟨ra, rb, rc, rd, re, hr⟩ := RM.readV_agg s
  obtain ⟨ma, mb, mc, md, me, hmk⟩ := RM.makeV_agg k g q s
  obtain ⟨T, hT⟩ : ∃ T, RM.textB k g q z m = T := ⟨_, rfl⟩
  obtain ⟨x1, hx1⟩ : ∃ x, decide (RM.may k g q z m) = x := ⟨_, rfl⟩
  obtain ⟨x2, hx2⟩ : ∃ x, decide (RM.readOk s) = x := ⟨_, rfl⟩
  obtain ⟨x3, hx3⟩ : ∃ x, decide (RM.may k g q (s.size : Int) (SM.rollF 1 s.data.toList)) = x := ⟨_, rfl⟩
  have C0 : Hid (∀ w, Calls Try.prog 13 #[.agg #[.int .i64 k, .int .i64 g, .int .i64 q, .int .i64 z, .int .i64 m]] w fun e w' => e = .returned (.tuple #[.string T, .bool x1]) ∧ Below w.heap.size w w') := Lib.hid (fun w => by
    have h := text_any k g q z m w hb
    rw [hT, hx1] at h
    exact h)
  have C1 : Hid (∀ w, Calls Try.prog 14 #[.agg #[.int .i64 k, .int .i64 g, .int .i64 q, .int .i64 z, .int .i64 m]] w fun e w' => e = .returned (.tuple #[.string T, .bool x1]) ∧ Below w.heap.size w w') := Lib.hid (fun w => by
    have h := rtext_any k g q z m w hb
    rw [hT, hx1] at h
    exact h)
  have C2 : Hid (∀ w, Calls Try.prog 15 #[.string s] w fun e w' => e = .returned (.tuple #[.agg #[.int .i64 ra, .int .i64 rb, .int .i64 rc, .int .i64 rd, .int .i64 re], .bool x2]) ∧ Below w.heap.size w w') := Lib.hid (fun w => by
    have h := read_any s w
    rw [hr, hx2] at h
    exact h)
  have C3 : Hid (∀ w, Calls Try.prog 16 #[.string s] w fun e w' => e = .returned (.tuple #[.agg #[.int .i64 ra, .int .i64 rb, .int .i64 rc, .int .i64 rd, .int .i64 re], .bool x2]) ∧ Below w.heap.size w w') := Lib.hid (fun w => by
    have h := rread_any s w
    rw [hr, hx2] at h
    exact h)
  have C4 : Hid (∀ w, Calls Try.prog 17 #[.int .i64 k, .int .i64 g, .int .i64 q, .string s] w fun e w' => e = .returned (.tuple #[.agg #[.int .i64 ma, .int .i64 mb, .int .i64 mc, .int .i64 md, .int .i64 me], .bool x3]) ∧ Below w.heap.size w w') := Lib.hid (fun w => by
    have h := make_any k g q s w hs
    rw [hmk, hx3] at h
    exact h)
  have C5 : Hid (∀ w, Calls Try.prog 18 #[.int .i64 k, .int .i64 g, .int .i64 q, .string s] w fun e w' => e = .returned (.tuple #[.agg #[.int .i64 ma, .int .i64 mb, .int .i64 mc, .int .i64 md, .int .i64 me], .bool x3]) ∧ Below w.heap.size w w') := Lib.hid (fun w => by
    have h := rmake_any k g q s w hs
    rw [hmk, hx3] at h
    exact h)
  clear hr hmk hT hx1 hx2 hx3
  by_cases hbig : (70000 : Int) < (s.size : Int)
  · go_enter Try.func3, Try.ntmps3
    go_wp2_with fail
    refine (live_any _).mono ?_; rintro e w' ⟨rfl, hb⟩
    go_wp2_with fail
    go_ret
    exact ⟨rfl, ((Below.refl _ _).alloc (Nat.le_refl _) _).trans (hb.mono (by simp))⟩
  · go_enter Try.func3, Try.ntmps3
    go_wp2_with fail
    refine (C0.out _).mono ?_; rintro e w1 ⟨rfl, b1⟩
    have KH : Hid (Hat w1 w.heap.size k g q z m) := Lib.hid (Hat.below ⟨by simp, by go_simp, by go_simp, by go_simp, by go_simp, by go_simp⟩ b1)
    have BB : Below w.heap.size w w1 := ((Below.refl _ _).alloc (Nat.le_refl _) _).trans (b1.mono (by simp))
    have s1 : w.heap.size < w1.heap.size := KH.out.1
    obtain ⟨_, p0, p1, p2, p3, p4⟩ := KH.out
    clear b1
    go_wp2_with fail
    refine (C1.out _).mono ?_; rintro e w2 ⟨rfl, b2⟩
    have KH2 : Hid (Hat w2 w.heap.size k g q z m) := Lib.hid (KH.out.below b2)
    have BB2 : Below w.heap.size w w2 := BB.trans (b2.mono (by omega))
    have s2 : w.heap.size < w2.heap.size := KH2.out.1
    clear b2 BB KH p0 p1 p2 p3 p4
    go_wp2_with fail
    refine (C2.out _).mono ?_; rintro e w3 ⟨rfl, b3⟩
    have KH3 : Hid (Hat w3 w.heap.size k g q z m) := Lib.hid (KH2.out.below b3)
    have BB : Below w.heap.size w w3 := BB2.trans (b3.mono (by omega))
    have s3 : w.heap.size < w3.heap.size := KH3.out.1
    clear b3 BB2 KH2
    go_wp2_with fail
    refine (C3.out _).mono ?_; rintro e w4 ⟨rfl, b4⟩
    have KR4 : Hid (Hat w4 w3.heap.size ra rb rc rd re) := Lib.hid (Hat.below ⟨by simp, by go_simp, by go_simp, by go_simp, by go_simp, by go_simp⟩ b4)
    have KH4 : Hid (Hat w4 w.heap.size k g q z m) := Lib.hid ((KH3.out.set ((Below.refl _ _).alloc (Nat.le_refl _) _) (by omega)).below b4)
    have BB4 : Below w.heap.size w w4 := Below.trans (by repeat' first | (with_reducible exact BB) | (with_reducible refine Below.alloc ?_ ?_ _) | (with_reducible refine Below.setCell ?_ ?_ _) | omega | (simp <;> omega)) (b4.mono (by simp <;> omega))
    have s4 : w3.heap.size < w4.heap.size := KR4.out.1
    obtain ⟨_, p0, p1, p2, p3, p4⟩ := KH4.out
    clear b4 BB KH3
    have BB := BB4
    clear BB4
    go_wp2_with fail
    refine (C4.out _).mono ?_; rintro e w5 ⟨rfl, b5⟩
    have KS5 : Hid (Hat w5 w4.heap.size ra rb rc rd re) := Lib.hid (Hat.below ⟨by simp, by go_simp, by go_simp, by go_simp, by go_simp, by go_simp⟩ b5)
    have KR5 : Hid (Hat w5 w3.heap.size ra rb rc rd re) := Lib.hid ((KR4.out.set ((Below.refl _ _).alloc (Nat.le_refl _) _) (by omega)).below b5)
    have KH5 : Hid (Hat w5 w.heap.size k g q z m) := Lib.hid ((KH4.out.set ((Below.refl _ _).alloc (Nat.le_refl _) _) (by omega)).below b5)
    have BB5 : Below w.heap.size w w5 := Below.trans (by repeat' first | (with_reducible exact BB) | (with_reducible refine Below.alloc ?_ ?_ _) | (with_reducible refine Below.setCell ?_ ?_ _) | omega | (simp <;> omega)) (b5.mono (by simp <;> omega))
    have s5 : w4.heap.size < w5.heap.size := KS5.out.1
    clear b5 BB KH4 KR4 p0 p1 p2 p3 p4
    have BB := BB5
    clear BB5
    obtain ⟨_, p0, p1, p2, p3, p4⟩ := KH5.out
    go_wp2_with fail
    refine (C5.out _).mono ?_; rintro e w6 ⟨rfl, b6⟩
    have KM6 : Hid (Hat w6 w5.heap.size ma mb mc md me) := Lib.hid (Hat.below ⟨by simp, by go_simp, by go_simp, by go_simp, by go_simp, by go_simp⟩ b6)
    have KS6 : Hid (Hat w6 w4.heap.size ra rb rc rd re) := Lib.hid ((KS5.out.set ((Below.refl _ _).alloc (Nat.le_refl _) _) (by omega)).below b6)
    have KR6 : Hid (Hat w6 w3.heap.size ra rb rc rd re) := Lib.hid ((KR5.out.set ((Below.refl _ _).alloc (Nat.le_refl _) _) (by omega)).below b6)
    have BB6 : Below w.heap.size w w6 := Below.trans (by repeat' first | (with_reducible exact BB) | (with_reducible refine Below.alloc ?_ ?_ _) | (with_reducible refine Below.setCell ?_ ?_ _) | omega | (simp <;> omega)) (b6.mono (by simp <;> omega))
    have s6 : w5.heap.size < w6.heap.size := KM6.out.1
    clear b6 BB KH5 KR5 KS5 p0 p1 p2 p3 p4
    have BB := BB6
    clear BB6
    obtain ⟨_, a0, a1, a2, a3, a4⟩ := KM6.out
    obtain ⟨_, d0, d1, d2, d3, d4⟩ := KS6.out
    obtain ⟨_, c0, c1, c2, c3, c4⟩ := KR6.out
    go_wp2_with fail
    refine (live_any _).mono ?_; rintro e w7 ⟨rfl, b7⟩
    have BB7 : Below w.heap.size w w7 := Below.trans (by repeat' first | (with_reducible exact BB) | (with_reducible refine Below.alloc ?_ ?_ _) | (with_reducible refine Below.setCell ?_ ?_ _) | omega | (simp <;> omega)) (b7.mono (by simp <;> omega))
    clear b7 BB
    go_wp2_with fail
    go_ret
    exact ⟨rfl, BB7⟩
end RecW
end Go.Proofs.Ytfagepkjpicieaa
