/- Orders by numbers -1, 0, 1: of numbers, of bytes, of lists, of pairs, by a key. No program in this text. -/
import Derived.Lib.Bytealg
import GoSem.Op.String
namespace Go.Proofs.YtpiiljpbfioilaaDoor.AM
set_option linter.unusedVariables false
set_option linter.unusedSimpArgs false
/-- a comparison that is an order -/
structure Cmp {α : Type} (c : α → α → Int) : Prop where
  rng : ∀ x y, c x y = -1 ∨ c x y = 0 ∨ c x y = 1
  anti : ∀ x y, c x y = - c y x
  tr : ∀ x y z, c x y ≤ 0 → c y z ≤ 0 → c x z ≤ 0
  eq : ∀ x y, c x y = 0 → x = y
theorem Cmp.refl {α : Type} {c : α → α → Int} (h : Cmp c) (x : α) : c x x = 0 := by have := h.anti x x; omega
theorem Cmp.zero {α : Type} {c : α → α → Int} (h : Cmp c) {x y : α} : c x y = 0 ↔ x = y := ⟨h.eq x y, fun e => e ▸ h.refl x⟩
theorem Cmp.gt_of {α : Type} {c : α → α → Int} (h : Cmp c) {x y z : α} (h1 : c x y = 1) (h2 : 0 ≤ c y z) : c x z = 1 := by
  have a1 := h.anti x y
  have a2 := h.anti y z
  have a3 := h.anti x z
  have t1 := h.tr z y x (by omega) (by omega)
  rcases h.rng x z with h3 | h3 | h3
  · omega
  · have := h.eq _ _ h3; subst this; omega
  · exact h3
theorem Cmp.gt_of' {α : Type} {c : α → α → Int} (h : Cmp c) {x y z : α} (h1 : 0 ≤ c x y) (h2 : c y z = 1) : c x z = 1 := by
  have a1 := h.anti x y
  have a2 := h.anti y z
  have a3 := h.anti x z
  have t1 := h.tr z y x (by omega) (by omega)
  rcases h.rng x z with h3 | h3 | h3
  · omega
  · have := h.eq _ _ h3; subst this; omega
  · exact h3
theorem Cmp.lt_iff {α : Type} {c : α → α → Int} (h : Cmp c) {x y : α} : c x y < 0 ↔ c y x = 1 := by
  have a1 := h.anti x y
  rcases h.rng x y with h3 | h3 | h3 <;> omega
def cmpI (a b : Int) : Int := if a < b then -1 else if b < a then 1 else 0
theorem cmpI_cmp : Cmp cmpI := by
  refine ⟨fun x y => ?_, fun x y => ?_, fun x y z => ?_, fun x y => ?_⟩ <;> unfold cmpI <;> repeat' split
  all_goals (try omega)
/-- the first of two that tells something -/
def or2 (x y : Int) : Int := if x = 0 then y else x
def cmpP {α β : Type} (c : α → α → Int) (d : β → β → Int) (x y : α × β) : Int := or2 (c x.1 y.1) (d x.2 y.2)
theorem cmpP_cmp {α β : Type} {c : α → α → Int} {d : β → β → Int} (hc : Cmp c) (hd : Cmp d) : Cmp (cmpP c d) := by
  refine ⟨fun x y => ?_, fun x y => ?_, fun x y z h1 h2 => ?_, fun x y h => ?_⟩
  · unfold cmpP or2; split
    · exact hd.rng _ _
    · exact hc.rng _ _
  · have a := hc.anti x.1 y.1
    have b := hd.anti x.2 y.2
    unfold cmpP or2; split <;> split <;> omega
  · unfold cmpP or2 at *
    have t := hc.tr x.1 y.1 z.1
    have t' := hc.tr z.1 x.1 y.1
    have t'' := hc.tr y.1 z.1 x.1
    have a1 := hc.anti x.1 y.1
    have a2 := hc.anti y.1 z.1
    have a3 := hc.anti x.1 z.1
    split at h1 <;> split at h2
    · rename_i e1 e2
      rw [hc.eq _ _ e1, hc.eq _ _ e2, hc.refl]
      rw [if_pos rfl]
      exact hd.tr _ _ _ h1 h2
    · rename_i e1 e2
      rw [hc.eq _ _ e1, if_neg e2]; exact h2
    · rename_i e1 e2
      rw [← hc.eq _ _ e2, if_neg e1]; exact h1
    · rename_i e1 e2
      have t0 := t h1 h2
      split
      · rename_i e3
        have e4 := hc.eq _ _ e3
        rw [← e4] at h2 e2 a2
        omega
      · exact t0
  · unfold cmpP or2 at h
    split at h
    · rename_i e1
      exact Prod.ext (hc.eq _ _ e1) (hd.eq _ _ h)
    · rename_i e1; exact absurd h e1
/-- by a key -/
theorem Cmp.key {α β : Type} {c : β → β → Int} (hc : Cmp c) (f : α → β) (hf : ∀ x y, f x = f y → x = y) : Cmp fun x y => c (f x) (f y) :=
  ⟨fun x y => hc.rng _ _, fun x y => hc.anti _ _, fun x y z => hc.tr _ _ _, fun x y h => hf _ _ (hc.eq _ _ h)⟩
/-- lists: by the first place at which they differ; the shorter one ahead -/
def cmpL {α : Type} (c : α → α → Int) : List α → List α → Int
  | [], [] => 0
  | [], _ :: _ => -1
  | _ :: _, [] => 1
  | a :: as, b :: bs => or2 (c a b) (cmpL c as bs)
theorem cmpL_cmp {α : Type} {c : α → α → Int} (hc : Cmp c) : Cmp (cmpL c) := by
  refine ⟨fun x => ?_, fun x => ?_, fun x => ?_, fun x => ?_⟩
  · induction x with
    | nil => intro y; cases y <;> simp [cmpL]
    | cons a as ih => intro y; cases y with
      | nil => simp [cmpL]
      | cons b bs =>
        unfold cmpL or2; split
        · exact ih bs
        · exact hc.rng _ _
  · induction x with
    | nil => intro y; cases y <;> simp [cmpL]
    | cons a as ih => intro y; cases y with
      | nil => simp [cmpL]
      | cons b bs =>
        have a1 := hc.anti a b
        have a2 := ih bs
        unfold cmpL or2; split <;> split <;> omega
  · induction x with
    | nil => intro y z; cases y <;> cases z <;> simp [cmpL]
    | cons a as ih => intro y z h1 h2; cases y with
      | nil => simp [cmpL] at h1
      | cons b bs => cases z with
        | nil => simp [cmpL] at h2
        | cons d ds =>
          have h1' : cmpP c (cmpL c) (a, as) (b, bs) ≤ 0 := h1
          have h2' : cmpP c (cmpL c) (b, bs) (d, ds) ≤ 0 := h2
          show or2 (c a d) (cmpL c as ds) ≤ 0
          unfold cmpP or2 at *
          dsimp only at *
          have t := hc.tr a b d
          split at h1' <;> split at h2'
          · rename_i e1 e2
            rw [hc.eq _ _ e1, hc.eq _ _ e2, hc.refl, if_pos rfl]
            exact ih bs ds h1' h2'
          · rename_i e1 e2
            rw [hc.eq _ _ e1, if_neg e2]; exact h2'
          · rename_i e1 e2
            rw [← hc.eq _ _ e2, if_neg e1]; exact h1'
          · rename_i e1 e2
            have t0 := t h1' h2'
            split
            · rename_i e3
              have e4 := hc.eq _ _ e3
              have a1 := hc.anti a b
              rw [← e4] at h2' e2
              omega
            · exact t0
  · induction x with
    | nil => intro y; cases y <;> simp [cmpL]
    | cons a as ih => intro y h; cases y with
      | nil => simp [cmpL] at h
      | cons b bs =>
        unfold cmpL or2 at h
        split at h
        · rename_i e1
          rw [hc.eq _ _ e1, ih bs h]
        · rename_i e1; exact absurd h e1
def cmpB (a b : UInt8) : Int := cmpI a.toNat b.toNat
theorem cmpB_eq (a b : UInt8) : cmpB a b = if ((a.toNat : Nat) : Int) < ((b.toNat : Nat) : Int) then -1 else if ((b.toNat : Nat) : Int) < ((a.toNat : Nat) : Int) then 1 else 0 := rfl
theorem cmpB_cmp : Cmp cmpB := cmpI_cmp.key (fun a : UInt8 => ((a.toNat : Nat) : Int)) fun x y h => UInt8.toNat_inj.1 (by omega)
theorem compareBytes_eq : ∀ a b : List UInt8, Lib.compareBytes a b = cmpL cmpB a b
  | [], [] => rfl
  | [], _ :: _ => rfl
  | _ :: _, [] => rfl
  | a :: as, b :: bs => by
    unfold Lib.compareBytes cmpL or2
    rw [compareBytes_eq as bs, cmpB_eq a b]
    have h1 : a < b ↔ ((a.toNat : Nat) : Int) < ((b.toNat : Nat) : Int) := by rw [UInt8.lt_iff_toNat_lt]; omega
    have h2 : b < a ↔ ((b.toNat : Nat) : Int) < ((a.toNat : Nat) : Int) := by rw [UInt8.lt_iff_toNat_lt]; omega
    simp only [h1, h2]
    split
    · simp
    · split
      · simp
      · simp
theorem bytesLess_cmp : ∀ a b : List UInt8, Op.bytesLess a b = decide (cmpL cmpB a b < 0)
  | [], [] => rfl
  | [], _ :: _ => rfl
  | _ :: _, [] => rfl
  | a :: as, b :: bs => by
    unfold Op.bytesLess cmpL or2
    rw [bytesLess_cmp as bs, cmpB_eq a b]
    have h1 : a < b ↔ ((a.toNat : Nat) : Int) < ((b.toNat : Nat) : Int) := by rw [UInt8.lt_iff_toNat_lt]; omega
    have h3 : (a == b) = decide (((a.toNat : Nat) : Int) = ((b.toNat : Nat) : Int)) := by
      by_cases h : a = b
      · subst h; simp
      · have : ¬ ((a.toNat : Nat) : Int) = ((b.toNat : Nat) : Int) := fun e => h (UInt8.toNat_inj.1 (by omega))
        simp [h, this]
    rw [h3]
    simp only [h1]
    by_cases c1 : ((a.toNat : Nat) : Int) < ((b.toNat : Nat) : Int)
    · simp [c1]
    · by_cases c2 : ((b.toNat : Nat) : Int) < ((a.toNat : Nat) : Int)
      · have : ¬ ((a.toNat : Nat) : Int) = ((b.toNat : Nat) : Int) := by omega
        simp [c1, c2, this]
      · have : ((a.toNat : Nat) : Int) = ((b.toNat : Nat) : Int) := by omega
        simp [c1, c2, this]
end Go.Proofs.YtpiiljpbfioilaaDoor.AM
