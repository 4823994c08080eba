/- The document's examples of records. -/
import Derived.Test.YtgijhddmadaplaaRecI
import Derived.Test.YtgijhddmadaplaaRecE
import Derived.Test.YtgijhddmadaplaaRecF
namespace Go.Proofs.Ytgijhddmadaplaa
open Go.RowKit
namespace RecW
def exT : ByteArray := ⟨#[72, 2, 0, 0, 0, 3, 0, 0, 0, 4, 0, 0, 0, 2, 1, 38, 0, 196, 0, 0, 0, 0, 0, 0, 0, 0, 0, 0, 0, 0, 0, 0]⟩
def exP : ByteArray := ⟨#[48, 49, 50, 51, 52, 53, 54, 55, 56, 57, 48, 49, 50, 51, 52, 53, 54, 55, 56, 57, 48, 49, 50, 51, 52, 53, 54, 55, 56, 57, 48, 120]⟩
def exA : ByteArray := ⟨#[68, 48, 49, 50, 51, 52, 53, 54, 55, 56, 57, 48, 49, 50, 51, 52, 53, 54, 55, 56, 57, 48, 49, 50, 51, 52, 53, 54, 55, 56, 57, 48]⟩
def exB : ByteArray := ⟨#[68, 120, 0, 0, 0, 0, 0, 0, 0, 0, 0, 0, 0, 0, 0, 0, 0, 0, 0, 0, 0, 0, 0, 0, 0, 0, 0, 0, 0, 0, 0, 0]⟩
theorem ex1 : SM.rollF 1 [97, 98] = 19267780 := by decide +kernel
theorem ex2 : RM.may 2 3 4 2 19267780 := by decide +kernel
theorem ex3 : RM.textB 2 3 4 2 19267780 = exT := by decide +kernel
theorem ex4 : RM.readOk exT := by decide +kernel
theorem ex5 : RM.cutL exP = [exA, exB] := by decide +kernel
theorem ex6 : RM.joinOk [exA, exB] 32 := by decide +kernel
theorem ex7 : RM.joinS [exA, exB] 32 = exP := by decide +kernel
theorem ex8 : ¬ RM.joinOk [exA, exB] 31 := by decide +kernel
theorem text_ex (w : World) : Calls Try.prog 20 #[.agg #[.int .i64 2, .int .i64 3, .int .i64 4, .int .i64 2, .int .i64 19267780]] w fun e w' => e = .returned (.tuple #[.string exT, .bool true]) ∧ Below w.heap.size w w' := by
  have h := text_any 2 3 4 2 19267780 w (by decide)
  rw [ex3, decide_eq_true ex2] at h
  exact h
theorem make_ex (w : World) : Calls Try.prog 51 #[.int .i64 2, .int .i64 3, .int .i64 4, .string ⟨#[97, 98]⟩] w fun e w' => e = .returned (.tuple #[.agg #[.int .i64 2, .int .i64 3, .int .i64 4, .int .i64 2, .int .i64 19267780], .bool true]) ∧ Below w.heap.size w w' := by
  have h := make_any 2 3 4 ⟨#[97, 98]⟩ w (by decide)
  have e : RM.may 2 3 4 (((⟨#[97, 98]⟩ : ByteArray).size : Nat) : Int) (SM.rollF 1 (⟨#[97, 98]⟩ : ByteArray).data.toList) := by
    show RM.may 2 3 4 2 (SM.rollF 1 [97, 98])
    rw [ex1]; exact ex2
  rw [RM.makeV_yes _ _ _ _ e, decide_eq_true e, show SM.rollF 1 (⟨#[97, 98]⟩ : ByteArray).data.toList = 19267780 from ex1] at h
  exact h
theorem make_ex2 (w : World) : Calls Try.prog 51 #[.int .i64 3, .int .i64 0, .int .i64 0, .string ⟨#[]⟩] w fun e w' => e = .returned (.tuple #[.agg #[.int .i64 0, .int .i64 0, .int .i64 0, .int .i64 0, .int .i64 0], .bool false]) ∧ Below w.heap.size w w' := by
  have h := make_any 3 0 0 ⟨#[]⟩ w (by decide)
  have e : ¬ RM.may 3 0 0 (((⟨#[]⟩ : ByteArray).size : Nat) : Int) (SM.rollF 1 (⟨#[]⟩ : ByteArray).data.toList) := fun x => by have := x.1; omega
  rw [RM.makeV_no _ _ _ _ e, decide_eq_false e] at h
  exact h
theorem read_ex (w : World) : Calls Try.prog 19 #[.string exT] w fun e w' => e = .returned (.tuple #[.agg #[.int .i64 2, .int .i64 3, .int .i64 4, .int .i64 2, .int .i64 19267780], .bool true]) ∧ Below w.heap.size w w' := by
  have h := read_any exT w
  rw [RM.readV_yes _ ex4, decide_eq_true ex4] at h
  exact h
theorem cut_ex (w : World) : Calls Try.prog 16 #[.string exP] w fun e w' => ∃ g cap, e = .returned (.slice (some ⟨g, 0, none⟩) 2 cap) ∧ g < w'.heap.size ∧ w'.cell? ⟨g, 0, none⟩ = some (.string exA) ∧ w'.cell? ⟨g, 1, none⟩ = some (.string exB) ∧ Below w.heap.size w w' := by
  refine (cut_any exP w (by decide)).mono ?_
  rintro e w' ⟨v, rfl, h, hb⟩
  have hs := RM.SV.of_owns (RM.cutL_length exP).symm h
  rw [ex5] at hs
  rw [show RM.cutN exP = 2 from by decide +kernel] at h
  obtain ⟨g, cap, cur, rfl, _, h3, _⟩ := h.2.resolve_left (by rintro ⟨_, h⟩; omega)
  obtain ⟨a, cap2, h1, h2⟩ := hs
  simp only [Value.slice.injEq] at h1
  obtain ⟨rfl, _, rfl⟩ := h1
  obtain ⟨b, off, h4, h5, h6⟩ := h2 (by decide)
  simp only [Option.some.injEq, Addr.mk.injEq] at h4
  obtain ⟨rfl, rfl, _⟩ := h4
  exact ⟨g, cap, rfl, h5, h6 0 (by decide), h6 1 (by decide), hb⟩
theorem sv2 {w : World} {g cap : Nat} (hg : g < w.heap.size) (h0 : w.cell? ⟨g, 0, none⟩ = some (.string exA)) (h1 : w.cell? ⟨g, 1, none⟩ = some (.string exB)) : RM.SV w (.slice (some ⟨g, 0, none⟩) 2 cap) [exA, exB] := by
  refine ⟨_, cap, rfl, fun _ => ⟨g, 0, rfl, hg, fun j hj => ?_⟩⟩
  match j, hj with
  | 0, _ => exact h0
  | 1, _ => exact h1
theorem join_ex (g cap : Nat) (w : World) (hg : g < w.heap.size) (h0 : w.cell? ⟨g, 0, none⟩ = some (.string exA)) (h1 : w.cell? ⟨g, 1, none⟩ = some (.string exB)) :
    Calls Try.prog 18 #[.slice (some ⟨g, 0, none⟩) 2 cap, .int .i64 32] w fun e w' => e = .returned (.tuple #[.string exP, .bool true]) ∧ Below w.heap.size w w' := by
  have h := join_any [exA, exB] _ 32 w (sv2 hg h0 h1 (cap := cap)) (by decide) (by decide)
  rw [RM.joinB_yes _ _ ex6, decide_eq_true ex6, ex7] at h
  exact h
theorem join_ex2 (g cap : Nat) (w : World) (hg : g < w.heap.size) (h0 : w.cell? ⟨g, 0, none⟩ = some (.string exA)) (h1 : w.cell? ⟨g, 1, none⟩ = some (.string exB)) :
    Calls Try.prog 18 #[.slice (some ⟨g, 0, none⟩) 2 cap, .int .i64 31] w fun e w' => e = .returned (.tuple #[.string ⟨#[]⟩, .bool false]) ∧ Below w.heap.size w w' := by
  have h := join_any [exA, exB] _ 31 w (sv2 hg h0 h1 (cap := cap)) (by decide) (by decide)
  rw [RM.joinB_no _ _ ex8, decide_eq_false ex8] at h
  exact h
/-- the cells of a head that a variable holds -/
def Hat (w : World) (b : Nat) (k g q z m : Int) : Prop := b < w.heap.size ∧ w.cell? ⟨b, 0, none⟩ = some (.int .i64 k) ∧ w.cell? ⟨b, 1, none⟩ = some (.int .i64 g) ∧ w.cell? ⟨b, 2, none⟩ = some (.int .i64 q) ∧ w.cell? ⟨b, 3, none⟩ = some (.int .i64 z) ∧ w.cell? ⟨b, 4, none⟩ = some (.int .i64 m)
theorem Hat.below {w w' : World} {b : Nat} {k g q z m : Int} (h : Hat w b k g q z m) (hb : Below w.heap.size w w') : Hat w' b k g q z m :=
  ⟨Nat.lt_of_lt_of_le h.1 hb.size, (hb.cell h.1).trans h.2.1, (hb.cell h.1).trans h.2.2.1, (hb.cell h.1).trans h.2.2.2.1, (hb.cell h.1).trans h.2.2.2.2.1, (hb.cell h.1).trans h.2.2.2.2.2⟩
theorem Hat.set {w w' : World} {b B : Nat} {k g q z m : Int} (h : Hat w b k g q z m) (hb : Below B w w') (hB : b < B) : Hat w' b k g q z m :=
  ⟨Nat.lt_of_lt_of_le h.1 hb.size, (hb.cell (p := ⟨b, 0, none⟩) hB).trans h.2.1, (hb.cell (p := ⟨b, 1, none⟩) hB).trans h.2.2.1, (hb.cell (p := ⟨b, 2, none⟩) hB).trans h.2.2.2.1, (hb.cell (p := ⟨b, 3, none⟩) hB).trans h.2.2.2.2.1, (hb.cell (p := ⟨b, 4, none⟩) hB).trans h.2.2.2.2.2⟩
set_option maxHeartbeats 6400000 in
set_option maxRecDepth 100000 in
theorem live_any (w : World) : Calls Try.prog 15 #[] w fun e w' => e = .returned (.bool true) ∧ Below w.heap.size w w' := by
  go_enter Try.func15, Try.ntmps15
  go_wp2_with fail
  refine (make_ex _).mono ?_; rintro e w1 ⟨rfl, b1⟩
  have s1 := b1.size
  go_wp2_with fail
  refine (text_ex _).mono ?_; rintro e w2 ⟨rfl, b2⟩
  have H2 : Hat w2 w1.heap.size 2 3 4 2 19267780 := Hat.below ⟨by simp, by go_simp, by go_simp, by go_simp, by go_simp, by go_simp⟩ b2
  have B2 : Below w.heap.size w w2 := Below.trans (by repeat' first | (with_reducible exact b1) | (with_reducible refine Below.alloc ?_ ?_ _) | (with_reducible refine Below.setCell ?_ ?_ _) | omega | (simp <;> omega)) (b2.mono (by simp <;> omega))
  have s2 : w1.heap.size < w2.heap.size := H2.1
  clear b1 b2
  have K2 := Lib.hid H2; clear H2
  go_wp2_with fail
  refine (read_ex _).mono ?_; rintro e w3 ⟨rfl, b3⟩
  have K3 : Hid (Hat w3 w1.heap.size 2 3 4 2 19267780) := Lib.hid (K2.out.below b3)
  have B3 : Below w.heap.size w w3 := B2.trans (b3.mono (by omega))
  have s3 := b3.size
  clear b3 K2 B2
  go_wp2_with fail
  refine (make_ex2 _).mono ?_; rintro e w4 ⟨rfl, b4⟩
  have K4 : Hid (Hat w4 w3.heap.size 2 3 4 2 19267780) := Lib.hid (Hat.below ⟨by simp, by go_simp, by go_simp, by go_simp, by go_simp, by go_simp⟩ b4)
  have J4 : Hid (Hat w4 w1.heap.size 2 3 4 2 19267780) := Lib.hid ((K3.out.set ((Below.refl _ _).alloc (Nat.le_refl _) _) (by omega)).below b4)
  have B4 : Below w.heap.size w w4 := Below.trans (by repeat' first | (with_reducible exact B3) | (with_reducible refine Below.alloc ?_ ?_ _) | (with_reducible refine Below.setCell ?_ ?_ _) | omega | (simp <;> omega)) (b4.mono (by simp <;> omega))
  have s4 : w3.heap.size < w4.heap.size := K4.out.1
  clear b4 K3 B3
  go_wp2_with fail
  refine (cut_ex _).mono ?_; rintro e w5 ⟨gl, cp, rfl, gl5, l50, l51, b5⟩
  have K5 : Hid (Hat w5 w3.heap.size 2 3 4 2 19267780) := Lib.hid ((K4.out.set ((Below.refl _ _).alloc (Nat.le_refl _) _) (by omega)).below b5)
  have J5 : Hid (Hat w5 w1.heap.size 2 3 4 2 19267780) := Lib.hid ((J4.out.set ((Below.refl _ _).alloc (Nat.le_refl _) _) (by omega)).below b5)
  have B5 : Below w.heap.size w w5 := Below.trans (by repeat' first | (with_reducible exact B4) | (with_reducible refine Below.alloc ?_ ?_ _) | (with_reducible refine Below.setCell ?_ ?_ _) | omega | (simp <;> omega)) (b5.mono (by simp <;> omega))
  have s5 : w4.heap.size ≤ w5.heap.size := by have := b5.size; simp at this; omega
  clear b5 K4 J4 B4
  go_wp2_with fail
  refine (join_ex gl cp _ gl5 l50 l51).mono ?_; rintro e w6 ⟨rfl, b6⟩
  have l60 : w6.cell? ⟨gl, 0, none⟩ = some (.string exA) := (b6.cell gl5).trans l50
  have l61 : w6.cell? ⟨gl, 1, none⟩ = some (.string exB) := (b6.cell gl5).trans l51
  have gl6 : gl < w6.heap.size := Nat.lt_of_lt_of_le gl5 b6.size
  have K6 : Hid (Hat w6 w3.heap.size 2 3 4 2 19267780) := Lib.hid (K5.out.below b6)
  have J6 : Hid (Hat w6 w1.heap.size 2 3 4 2 19267780) := Lib.hid (J5.out.below b6)
  have B6 : Below w.heap.size w w6 := B5.trans (b6.mono (by omega))
  have s6 := b6.size
  clear b6 K5 J5 B5 l50 l51 gl5
  go_wp2_with fail
  refine (join_ex2 gl cp _ gl6 l60 l61).mono ?_; rintro e w7 ⟨rfl, b7⟩
  have l70 : w7.cell? ⟨gl, 0, none⟩ = some (.string exA) := (b7.cell gl6).trans l60
  have l71 : w7.cell? ⟨gl, 1, none⟩ = some (.string exB) := (b7.cell gl6).trans l61
  have B7 : Below w.heap.size w w7 := B6.trans (b7.mono (by omega))
  have K7 := K6.out.below b7
  have J7 := J6.out.below b7
  clear b7 K6 J6 B6 l60 l61
  obtain ⟨_, k0, k1, k2, k3, k4⟩ := K7
  obtain ⟨_, j0, j1, j2, j3, j4⟩ := J7
  have u1 : exT.size = 32 := rfl
  have u2 : exT.extract 0 14 = ⟨#[72, 2, 0, 0, 0, 3, 0, 0, 0, 4, 0, 0, 0, 2]⟩ := by decide +kernel
  have u3 : exB.size = 32 := rfl
  have u4 : exB.extract 0 3 = ⟨#[68, 120, 0]⟩ := by decide +kernel
  have u5 : exP = ⟨#[48, 49, 50, 51, 52, 53, 54, 55, 56, 57, 48, 49, 50, 51, 52, 53, 54, 55, 56, 57, 48, 49, 50, 51, 52, 53, 54, 55, 56, 57, 48, 120]⟩ := rfl
  have t1 : RM.countF 31 = 1 := by decide
  have t2 : RM.countF 32 = 2 := by decide
  have t3 : RM.countF 0 = 0 := by decide
  have t4 : RM.countF (-1) = -1 := by decide
  have t5 : RM.countF 4097 = -1 := by decide
  go_wp2_with (go_at_call 17; refine (count_any _ _ (by decide)).mono ?_; rintro e w' ⟨rfl, rfl⟩)
  go_ret
  exact ⟨rfl, B7⟩
end RecW
end Go.Proofs.Ytgijhddmadaplaa
