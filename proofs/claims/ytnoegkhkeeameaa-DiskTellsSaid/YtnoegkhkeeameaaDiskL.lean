/- The document's examples of disks. -/
import Derived.Test.YtnoegkhkeeameaaDiskF
import Derived.Test.YtnoegkhkeeameaaDiskG
import Derived.Test.YtnoegkhkeeameaaDiskI
import Derived.Test.YtnoegkhkeeameaaDiskJ
namespace Go.Proofs.Ytnoegkhkeeameaa
open Go.RowKit
set_option linter.unusedVariables false
namespace DiskW
def exZ : ByteArray := ⟨#[0, 0, 0, 0, 0, 0, 0, 0, 0, 0, 0, 0, 0, 0, 0, 0, 0, 0, 0, 0, 0, 0, 0, 0, 0, 0, 0, 0, 0, 0, 0, 0]⟩
def exAB : ByteArray := ⟨#[97, 98, 0, 0, 0, 0, 0, 0, 0, 0, 0, 0, 0, 0, 0, 0, 0, 0, 0, 0, 0, 0, 0, 0, 0, 0, 0, 0, 0, 0, 0, 0]⟩
def exCD : ByteArray := ⟨#[99, 100, 0, 0, 0, 0, 0, 0, 0, 0, 0, 0, 0, 0, 0, 0, 0, 0, 0, 0, 0, 0, 0, 0, 0, 0, 0, 0, 0, 0, 0, 0]⟩
def ex33 : ByteArray := ⟨#[49, 50, 51, 52, 53, 54, 55, 56, 57, 48, 49, 50, 51, 52, 53, 54, 55, 56, 57, 48, 49, 50, 51, 52, 53, 54, 55, 56, 57, 48, 49, 50, 51]⟩
def exD : DM.Dk := ⟨[exZ, exZ, exZ], []⟩
def exA : DM.Dk := ⟨[exZ, exZ, exZ], [(1, exAB)]⟩
def exB : DM.Dk := ⟨[exZ, exZ, exZ], [(1, exAB), (1, exCD)]⟩
def exC : DM.Dk := ⟨[exZ, exAB, exZ], []⟩
def exK : DM.Dk := ⟨[exZ, exCD, exZ], []⟩
def exN : DM.Dk := ⟨[], []⟩
theorem e1 : (⟨List.replicate 3 DM.zeroS, []⟩ : DM.Dk) = exD := by decide +kernel
theorem e2 : DM.putD exD 1 ⟨#[97, 98]⟩ = exA ∧ DM.putE exD 1 ⟨#[97, 98]⟩ = 0 := by decide +kernel
theorem e3 : DM.putD exA 1 ⟨#[99, 100]⟩ = exB ∧ DM.putE exA 1 ⟨#[99, 100]⟩ = 0 := by decide +kernel
theorem e4 : DM.putD exD 3 ⟨#[]⟩ = exD ∧ DM.putE exD 3 ⟨#[]⟩ = 1 := by decide +kernel
theorem e5 : DM.putD exD 0 ex33 = exD ∧ DM.putE exD 0 ex33 = 2 := by decide +kernel
theorem e6 : DM.getB exB 1 = exCD ∧ DM.getE exB 1 = 0 := by decide +kernel
theorem e7 : DM.crashD (fun j => [true].getD j false) exB = exC ∧ DM.argE exB = 0 := by decide +kernel
theorem e8 : DM.getB exC 1 = exAB ∧ DM.getE exC 1 = 0 := by decide +kernel
theorem e9 : DM.crashD (fun _ => true) exB = exK := by decide +kernel
theorem e10 : DM.getB exK 1 = exCD ∧ DM.getE exK 1 = 0 := by decide +kernel
theorem e11 : decide (DM.mayD exD) = true ∧ decide (DM.mayD exN) = false ∧ decide (exD = exD) = true ∧ decide (exD = exA) = false := by decide +kernel
theorem put_ex (d d' : DM.Dk) (i : Int) (s : ByteArray) (x : Int) (h : DM.putD d i s = d' ∧ DM.putE d i s = x) (b1 : d.secs.length ≤ 100) (b2 : d.cache.length ≤ 100) (hs : s.size ≤ 100) (a1 a2 : Option Addr) (n k1 m k2 : Nat) (w : World) (hd : DM.DV w (.slice a1 n k1) (.slice a2 m k2) d) :
    Calls Try.prog 23 #[.agg #[.slice a1 n k1, .slice a2 m k2], .int .i64 i, .string s] w fun e w' => ∃ a3 n3 k3 a4 n4 k4, e = .returned (.tuple #[.agg #[.slice a3 n3 k3, .slice a4 n4 k4], .int .i64 x]) ∧ DM.DV w' (.slice a3 n3 k3) (.slice a4 n4 k4) d' ∧ Below w.heap.size w w' := by
  obtain ⟨hn, hm⟩ := DM.DV.len hd
  have := put_any a1 a2 k1 k2 n m d i s w hd hn hm (by omega) (by omega) (by unfold maxLen; omega)
  rw [h.1, h.2] at this
  exact this
theorem get_ex (d : DM.Dk) (i : Int) (s : ByteArray) (x : Int) (h : DM.getB d i = s ∧ DM.getE d i = x) (b1 : d.secs.length ≤ 100) (b2 : d.cache.length ≤ 100) (a1 a2 : Option Addr) (n k1 m k2 : Nat) (w : World) (hd : DM.DV w (.slice a1 n k1) (.slice a2 m k2) d) :
    Calls Try.prog 28 #[.agg #[.slice a1 n k1, .slice a2 m k2], .int .i64 i] w fun e w' => e = .returned (.tuple #[.string s, .int .i64 x]) ∧ Below w.heap.size w w' := by
  obtain ⟨hn, hm⟩ := DM.DV.len hd
  have := get_any a1 a2 k1 k2 n m d i w hd hn hm (by omega) (by omega)
  rw [h.1, h.2] at this
  exact this
theorem may_ex (d : DM.Dk) (x : Bool) (h : decide (DM.mayD d) = x) (b1 : d.secs.length ≤ 100) (b2 : d.cache.length ≤ 100) (v1 v2 : Value) (w : World) (hd : DM.DV w v1 v2 d) :
    Calls Try.prog 30 #[.agg #[v1, v2]] w fun e w' => e = .returned (.bool x) ∧ Below w.heap.size w w' := by
  have := may_any v1 v2 d w hd (by omega) (by omega)
  rw [h] at this
  exact this
theorem crash_ex (g cap : Nat) (a1 a2 : Option Addr) (n k1 m k2 : Nat) (w : World) (hd : DM.DV w (.slice a1 n k1) (.slice a2 m k2) exB) (hv : BV w (.slice (some ⟨g, 0, none⟩) 1 cap) [true]) :
    Calls Try.prog 15 #[.agg #[.slice a1 n k1, .slice a2 m k2], .slice (some ⟨g, 0, none⟩) 1 cap] w fun e w' => ∃ a3 n3 k3 a4 n4 k4, e = .returned (.tuple #[.agg #[.slice a3 n3 k3, .slice a4 n4 k4], .int .i64 0]) ∧ DM.DV w' (.slice a3 n3 k3) (.slice a4 n4 k4) exC ∧ Below w.heap.size w w' := by
  obtain ⟨hn, hm⟩ := DM.DV.len hd
  have := crash_any a1 a2 k1 k2 n m exB (some ⟨g, 0, none⟩) cap [true] w hd hn hm (by rw [← hn]; decide) (by rw [← hm]; decide) hv (by decide)
  rw [e7.1, e7.2] at this
  exact this
theorem flush_ex (a1 a2 : Option Addr) (n k1 m k2 : Nat) (w : World) (hd : DM.DV w (.slice a1 n k1) (.slice a2 m k2) exB) :
    Calls Try.prog 32 #[.agg #[.slice a1 n k1, .slice a2 m k2]] w fun e w' => ∃ a3 n3 k3 a4 k4, e = .returned (.tuple #[.agg #[.slice a3 n3 k3, .slice a4 0 k4], .int .i64 0]) ∧ DM.DV w' (.slice a3 n3 k3) (.slice a4 0 k4) exK ∧ Below w.heap.size w w' := by
  obtain ⟨hn, hm⟩ := DM.DV.len hd
  have := bflush_any a1 a2 k1 k2 n m exB w hd hn hm (by rw [← hn]; decide) (by rw [← hm]; decide)
  rw [e9, e7.2] at this
  refine this.mono ?_
  rintro e w' ⟨a3, n3, k3, a4, n4, k4, rfl, h1, h2⟩
  obtain ⟨_, h4⟩ := DM.DV.len h1
  obtain rfl : n4 = 0 := by rw [← h4]; rfl
  exact ⟨a3, n3, k3, a4, k4, rfl, h1, h2⟩
theorem same_ex (d1 d2 : DM.Dk) (x : Bool) (h : decide (d1 = d2) = x) (b1 : d1.secs.length ≤ 100) (b2 : d1.cache.length ≤ 100) (b3 : d2.secs.length ≤ 100) (b4 : d2.cache.length ≤ 100) (a1 a2 a3 a4 : Option Addr) (n1 k1 n2 k2 n3 k3 n4 k4 : Nat) (w : World) (h1 : DM.DV w (.slice a1 n1 k1) (.slice a2 n2 k2) d1) (h2 : DM.DV w (.slice a3 n3 k3) (.slice a4 n4 k4) d2) :
    Calls Try.prog 36 #[.agg #[.slice a1 n1 k1, .slice a2 n2 k2], .agg #[.slice a3 n3 k3, .slice a4 n4 k4]] w fun e w' => e = .returned (.bool x) ∧ Below w.heap.size w w' := by
  have := same_any a1 a2 a3 a4 n1 k1 n2 k2 n3 k3 n4 k4 d1 d2 w h1 h2 (by omega) (by omega) (by omega) (by omega)
  rw [h] at this
  exact this
theorem bv1 (w : World) (T : TypeId) : BV (w.alloc (.cells #[.bool true] T)) (.slice (some ⟨w.heap.size, 0, none⟩) 1 1) [true] := by
  refine ⟨_, 1, rfl, fun _ => ⟨_, 0, rfl, by simp, fun j hj => ?_⟩⟩
  obtain rfl : j = 0 := by simpa using hj
  go_simp
theorem new_ex (w : World) : Calls Try.prog 35 #[.int .i64 3] w fun e w' => ∃ a3 n3 k3 a4 n4 k4, e = .returned (.tuple #[.agg #[.slice a3 n3 k3, .slice a4 n4 k4], .bool true]) ∧ DM.DV w' (.slice a3 n3 k3) (.slice a4 n4 k4) exD ∧ Below w.heap.size w w' := by
  refine (new_yes 3 w (by omega) (by omega)).mono ?_
  rintro e w' ⟨g, rfl, h1, h2⟩
  rw [e1] at h1
  exact ⟨_, _, _, _, _, _, rfl, h1, h2⟩
set_option maxHeartbeats 6400000 in
set_option maxRecDepth 100000 in
theorem live_any (w : World) : Calls Try.prog 26 #[] w fun e w' => e = .returned (.bool true) ∧ Below w.heap.size w w' := by
  go_enter Try.func26, Try.ntmps26
  go_wp2_with fail
  refine (new_ex _).mono ?_
  rintro e w1 ⟨a1, n1, k1, p1, m1, q1, rfl, D1, B1⟩
  have T1 : Below w.heap.size w w1 := B1
  have Z1 : Below w.heap.size w w1 := T1
  clear B1 T1
  have Y1_1 := Lib.hid D1; clear D1
  go_wp2_with fail
  refine (new_no 0 _ (by decide)).mono ?_
  rintro e w2 ⟨rfl, B2⟩
  have T2 : Below w1.heap.size w1 w2 := ((Below.refl _ _).alloc (Nat.le_refl _) _).trans (B2.mono (by simp))
  have Z2 : Below w.heap.size w w2 := Z1.trans (T2.mono Z1.size)
  have X1_2 := Lib.hid ((box_alloc w1 (.slice a1 n1 k1) (.slice p1 m1 q1) 25).below B2); have Y1_2 := Lib.hid (Y1_1.out.below T2)
  clear B2 T2
  have c10 := X1_2.out.2.1; have c11 := X1_2.out.2.2; have l1 := X1_2.out.1
  go_wp2_with fail
  refine (put_ex _ _ 1 ⟨#[97, 98]⟩ _ e2 (by decide) (by decide) (by decide) _ _ _ _ _ _ _ (Y1_2.out.below ((Below.refl _ _).alloc (Nat.le_refl _) _))).mono ?_
  rintro e w3 ⟨a3, n3, k3, p3, m3, q3, rfl, D3, B3⟩
  have T3 : Below w2.heap.size w2 w3 := ((Below.refl _ _).alloc (Nat.le_refl _) _).trans (B3.mono (by simp))
  have Z3 : Below w.heap.size w w3 := Z2.trans (T3.mono Z2.size)
  have X1_3 := Lib.hid (X1_2.out.below T3); have Y1_3 := Lib.hid (Y1_2.out.below T3)
  clear B3 T3
  have Y3_3 := Lib.hid D3; clear D3
  clear c10 c11 l1
  go_wp2_with fail
  refine (put_ex _ _ 1 ⟨#[99, 100]⟩ _ e3 (by decide) (by decide) (by decide) _ _ _ _ _ _ _ (Y3_3.out.below ((Below.refl _ _).alloc (Nat.le_refl _) _))).mono ?_
  rintro e w4 ⟨a4, n4, k4, p4, m4, q4, rfl, D4, B4⟩
  have T4 : Below w3.heap.size w3 w4 := ((Below.refl _ _).alloc (Nat.le_refl _) _).trans (B4.mono (by simp))
  have Z4 : Below w.heap.size w w4 := Z3.trans (T4.mono Z3.size)
  have X1_4 := Lib.hid (X1_3.out.below T4); have Y1_4 := Lib.hid (Y1_3.out.below T4)
  have X3_4 := Lib.hid ((box_alloc w3 (.slice a3 n3 k3) (.slice p3 m3 q3) 25).below B4); have Y3_4 := Lib.hid (Y3_3.out.below T4)
  clear B4 T4
  have Y4_4 := Lib.hid D4; clear D4
  have c10 := X1_4.out.2.1; have c11 := X1_4.out.2.2; have l1 := X1_4.out.1
  go_wp2_with fail
  refine (put_ex _ _ 3 ⟨#[]⟩ _ e4 (by decide) (by decide) (by decide) _ _ _ _ _ _ _ (Y1_4.out.below ((Below.refl _ _).alloc (Nat.le_refl _) _))).mono ?_
  rintro e w5 ⟨a5, n5, k5, p5, m5, q5, rfl, D5, B5⟩
  have T5 : Below w4.heap.size w4 w5 := ((Below.refl _ _).alloc (Nat.le_refl _) _).trans (B5.mono (by simp))
  have Z5 : Below w.heap.size w w5 := Z4.trans (T5.mono Z4.size)
  have X1_5 := Lib.hid (X1_4.out.below T5); have Y1_5 := Lib.hid (Y1_4.out.below T5)
  have X3_5 := Lib.hid (X3_4.out.below T5); have Y3_5 := Lib.hid (Y3_4.out.below T5)
  have X4_5 := Lib.hid ((box_alloc w4 (.slice a4 n4 k4) (.slice p4 m4 q4) 25).below B5); have Y4_5 := Lib.hid (Y4_4.out.below T5)
  clear B5 T5
  have Y5_5 := Lib.hid D5; clear D5
  clear c10 c11 l1
  have c10 := X1_5.out.2.1; have c11 := X1_5.out.2.2; have l1 := X1_5.out.1
  go_wp2_with fail
  refine (put_ex _ _ 0 ex33 _ e5 (by decide) (by decide) (by decide) _ _ _ _ _ _ _ (Y1_5.out.below ((Below.refl _ _).alloc (Nat.le_refl _) _))).mono ?_
  rintro e w6 ⟨a6, n6, k6, p6, m6, q6, rfl, D6, B6⟩
  have T6 : Below w5.heap.size w5 w6 := ((Below.refl _ _).alloc (Nat.le_refl _) _).trans (B6.mono (by simp))
  have Z6 : Below w.heap.size w w6 := Z5.trans (T6.mono Z5.size)
  have X1_6 := Lib.hid (X1_5.out.below T6); have Y1_6 := Lib.hid (Y1_5.out.below T6)
  have X3_6 := Lib.hid (X3_5.out.below T6); have Y3_6 := Lib.hid (Y3_5.out.below T6)
  have X4_6 := Lib.hid (X4_5.out.below T6); have Y4_6 := Lib.hid (Y4_5.out.below T6)
  clear B6 T6
  have Y6_6 := Lib.hid D6; clear D6
  clear c10 c11 l1
  have c40 := X4_6.out.2.1; have c41 := X4_6.out.2.2; have l4 := X4_6.out.1
  go_wp2_with fail
  refine (get_ex _ 1 _ _ e6 (by decide) (by decide) _ _ _ _ _ _ _ (Y4_6.out.below ((Below.refl _ _).alloc (Nat.le_refl _) _))).mono ?_
  rintro e w7 ⟨rfl, B7⟩
  have T7 : Below w6.heap.size w6 w7 := ((Below.refl _ _).alloc (Nat.le_refl _) _).trans (B7.mono (by simp))
  have Z7 : Below w.heap.size w w7 := Z6.trans (T7.mono Z6.size)
  have X1_7 := Lib.hid (X1_6.out.below T7); have Y1_7 := Lib.hid (Y1_6.out.below T7)
  have X3_7 := Lib.hid (X3_6.out.below T7); have Y3_7 := Lib.hid (Y3_6.out.below T7)
  have X4_7 := Lib.hid (X4_6.out.below T7); have Y4_7 := Lib.hid (Y4_6.out.below T7)
  clear B7 T7
  clear c40 c41 l4
  have c40 := X4_7.out.2.1; have c41 := X4_7.out.2.2; have l4 := X4_7.out.1
  go_wp2_with fail
  refine (crash_ex _ _ _ _ _ _ _ _ _ (Y4_7.out.below ((Below.refl _ _).alloc (Nat.le_refl _) _)) (bv1 _ _)).mono ?_
  rintro e w8 ⟨a8, n8, k8, p8, m8, q8, rfl, D8, B8⟩
  have T8 : Below w7.heap.size w7 w8 := ((Below.refl _ _).alloc (Nat.le_refl _) _).trans (B8.mono (by simp))
  have Z8 : Below w.heap.size w w8 := Z7.trans (T8.mono Z7.size)
  have X1_8 := Lib.hid (X1_7.out.below T8); have Y1_8 := Lib.hid (Y1_7.out.below T8)
  have X3_8 := Lib.hid (X3_7.out.below T8); have Y3_8 := Lib.hid (Y3_7.out.below T8)
  have X4_8 := Lib.hid (X4_7.out.below T8); have Y4_8 := Lib.hid (Y4_7.out.below T8)
  clear B8 T8
  have Y8_8 := Lib.hid D8; clear D8
  clear c40 c41 l4
  go_wp2_with fail
  refine (get_ex _ 1 _ _ e8 (by decide) (by decide) _ _ _ _ _ _ _ (Y8_8.out.below ((Below.refl _ _).alloc (Nat.le_refl _) _))).mono ?_
  rintro e w9 ⟨rfl, B9⟩
  have T9 : Below w8.heap.size w8 w9 := ((Below.refl _ _).alloc (Nat.le_refl _) _).trans (B9.mono (by simp))
  have Z9 : Below w.heap.size w w9 := Z8.trans (T9.mono Z8.size)
  have X1_9 := Lib.hid (X1_8.out.below T9); have Y1_9 := Lib.hid (Y1_8.out.below T9)
  have X3_9 := Lib.hid (X3_8.out.below T9); have Y3_9 := Lib.hid (Y3_8.out.below T9)
  have X4_9 := Lib.hid (X4_8.out.below T9); have Y4_9 := Lib.hid (Y4_8.out.below T9)
  have X8_9 := Lib.hid ((box_alloc w8 (.slice a8 n8 k8) (.slice p8 m8 q8) 25).below B9); have Y8_9 := Lib.hid (Y8_8.out.below T9)
  clear B9 T9
  have c40 := X4_9.out.2.1; have c41 := X4_9.out.2.2; have l4 := X4_9.out.1
  go_wp2_with fail
  refine (flush_ex _ _ _ _ _ _ _ Y4_9.out).mono ?_
  rintro e w10 ⟨a10, n10, k10, p10, q10, rfl, D10, B10⟩
  have T10 : Below w9.heap.size w9 w10 := B10
  have Z10 : Below w.heap.size w w10 := Z9.trans (T10.mono Z9.size)
  have X1_10 := Lib.hid (X1_9.out.below T10); have Y1_10 := Lib.hid (Y1_9.out.below T10)
  have X3_10 := Lib.hid (X3_9.out.below T10); have Y3_10 := Lib.hid (Y3_9.out.below T10)
  have X4_10 := Lib.hid (X4_9.out.below T10); have Y4_10 := Lib.hid (Y4_9.out.below T10)
  have X8_10 := Lib.hid (X8_9.out.below T10); have Y8_10 := Lib.hid (Y8_9.out.below T10)
  clear B10 T10
  have Y10_10 := Lib.hid D10; clear D10
  clear c40 c41 l4
  go_wp2_with fail
  refine (get_ex _ 1 _ _ e10 (by decide) (by decide) _ _ _ _ _ _ _ (Y10_10.out.below ((Below.refl _ _).alloc (Nat.le_refl _) _))).mono ?_
  rintro e w11 ⟨rfl, B11⟩
  have T11 : Below w10.heap.size w10 w11 := ((Below.refl _ _).alloc (Nat.le_refl _) _).trans (B11.mono (by simp))
  have Z11 : Below w.heap.size w w11 := Z10.trans (T11.mono Z10.size)
  have X1_11 := Lib.hid (X1_10.out.below T11); have Y1_11 := Lib.hid (Y1_10.out.below T11)
  have X3_11 := Lib.hid (X3_10.out.below T11); have Y3_11 := Lib.hid (Y3_10.out.below T11)
  have X4_11 := Lib.hid (X4_10.out.below T11); have Y4_11 := Lib.hid (Y4_10.out.below T11)
  have X8_11 := Lib.hid (X8_10.out.below T11); have Y8_11 := Lib.hid (Y8_10.out.below T11)
  have X10_11 := Lib.hid ((box_alloc w10 (.slice a10 n10 k10) (.slice p10 0 q10) 25).below B11); have Y10_11 := Lib.hid (Y10_10.out.below T11)
  clear B11 T11
  have u1 : exCD.size = 32 := rfl
  have u2 : exCD.extract 0 3 = ⟨#[99, 100, 0]⟩ := by decide +kernel
  have u3 : exAB.size = 32 := rfl
  have u4 : exAB.extract 0 3 = ⟨#[97, 98, 0]⟩ := by decide +kernel
  have c10 := X1_11.out.2.1; have c11 := X1_11.out.2.2; have l1 := X1_11.out.1
  have c100 := X10_11.out.2.1; have c101 := X10_11.out.2.2; have l10 := X10_11.out.1
  have c30 := X3_11.out.2.1; have c31 := X3_11.out.2.2; have l3 := X3_11.out.1
  go_wp2_with fail
  refine (may_ex exD true e11.1 (by decide) (by decide) _ _ _ Y1_11.out).mono ?_
  rintro e w12 ⟨rfl, B12⟩
  have Z12 : Below w.heap.size w w12 := Z11.trans (B12.mono Z11.size)
  have X1_12 := Lib.hid (X1_11.out.below B12); have Y1_12 := Lib.hid (Y1_11.out.below B12)
  have X3_12 := Lib.hid (X3_11.out.below B12); have Y3_12 := Lib.hid (Y3_11.out.below B12)
  have X10_12 := Lib.hid (X10_11.out.below B12); have Y10_12 := Lib.hid (Y10_11.out.below B12)
  clear c10 c11 l1 c100 c101 l10 c30 c31 l3 B12
  have c10 := X1_12.out.2.1; have c11 := X1_12.out.2.2; have l1 := X1_12.out.1
  have c100 := X10_12.out.2.1; have c101 := X10_12.out.2.2; have l10 := X10_12.out.1
  have c30 := X3_12.out.2.1; have c31 := X3_12.out.2.2; have l3 := X3_12.out.1
  go_wp2_with fail
  refine (may_ex exN false e11.2.1 (by decide) (by decide) _ _ _ ⟨⟨none, 0, rfl, fun h => by simp [exN] at h⟩, DM.WV.nil _ _ _⟩).mono ?_
  rintro e w13 ⟨rfl, B13⟩
  have Z13 : Below w.heap.size w w13 := Z12.trans (B13.mono Z12.size)
  have X1_13 := Lib.hid (X1_12.out.below B13); have Y1_13 := Lib.hid (Y1_12.out.below B13)
  have X3_13 := Lib.hid (X3_12.out.below B13); have Y3_13 := Lib.hid (Y3_12.out.below B13)
  have X10_13 := Lib.hid (X10_12.out.below B13); have Y10_13 := Lib.hid (Y10_12.out.below B13)
  clear c10 c11 l1 c100 c101 l10 c30 c31 l3 B13
  have c10 := X1_13.out.2.1; have c11 := X1_13.out.2.2; have l1 := X1_13.out.1
  have c100 := X10_13.out.2.1; have c101 := X10_13.out.2.2; have l10 := X10_13.out.1
  have c30 := X3_13.out.2.1; have c31 := X3_13.out.2.2; have l3 := X3_13.out.1
  go_wp2_with fail
  refine (same_ex exD exD true e11.2.2.1 (by decide) (by decide) (by decide) (by decide) _ _ _ _ _ _ _ _ _ _ _ _ _ Y1_13.out Y1_13.out).mono ?_
  rintro e w14 ⟨rfl, B14⟩
  have Z14 : Below w.heap.size w w14 := Z13.trans (B14.mono Z13.size)
  have X1_14 := Lib.hid (X1_13.out.below B14); have Y1_14 := Lib.hid (Y1_13.out.below B14)
  have X3_14 := Lib.hid (X3_13.out.below B14); have Y3_14 := Lib.hid (Y3_13.out.below B14)
  have X10_14 := Lib.hid (X10_13.out.below B14); have Y10_14 := Lib.hid (Y10_13.out.below B14)
  clear c10 c11 l1 c100 c101 l10 c30 c31 l3 B14
  have c10 := X1_14.out.2.1; have c11 := X1_14.out.2.2; have l1 := X1_14.out.1
  have c100 := X10_14.out.2.1; have c101 := X10_14.out.2.2; have l10 := X10_14.out.1
  have c30 := X3_14.out.2.1; have c31 := X3_14.out.2.2; have l3 := X3_14.out.1
  go_wp2_with fail
  refine (same_ex exD exA false e11.2.2.2 (by decide) (by decide) (by decide) (by decide) _ _ _ _ _ _ _ _ _ _ _ _ _ Y1_14.out Y3_14.out).mono ?_
  rintro e w15 ⟨rfl, B15⟩
  have Z15 : Below w.heap.size w w15 := Z14.trans (B15.mono Z14.size)
  go_wp2_with fail
  go_ret
  exact ⟨rfl, Z15⟩
end DiskW
end Go.Proofs.Ytnoegkhkeeameaa
