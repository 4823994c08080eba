/- Layer 5: the document's paths (as in layers 7 and 8; there is one text for each of the two, for what is generated bears the same names). -/
import Derived.Test.YtpiiljpbfioilaaDoorFilG1
import Derived.Test.YtpiiljpbfioilaaDoorPure
import Derived.Test.YtpiiljpbfioilaaDoorSpl
namespace Go.Proofs.YtpiiljpbfioilaaDoor.AM
open Go.RowKit
set_option linter.unusedVariables false
set_option linter.unusedSimpArgs false
theorem rSplit5_loop (n : Nat) (s : List UInt8) (c : UInt8) (hs : s.length ≤ 1000000) : ∀ (m i fr : Nat) (out : List (List UInt8)), i ≤ s.length → s.length - i + 1 < m → fr ≤ i → out.length ≤ i →
    rSplit5_loop0 n m s ((c.toNat : Nat) : Int) (fr : Int) (i : Int) out = some (((), ()), ((), (out ++ spl c ((s.drop fr).take (i - fr)) (s.drop i), ())))
  | 0, i, fr, _, _, h, _, _ => absurd h (Nat.not_lt_zero _)
  | m + 1, i, fr, out, hi, h, hf, ho => by
    rw [rSplit5_loop0_succ]
    unfold rSplit5_l0
    have c0 : ((i : Nat) : Int) ≤ ((s.length : Nat) : Int) := by omega
    have w1 := wrap_succ (show i < 4611686018427387904 by omega)
    have s1 : subO s ((fr : Nat) : Int) ((i : Nat) : Int) = some ((s.drop fr).take (i - fr)) := sub_le hf hi
    have a1 : appO 16 out [(s.drop fr).take (i - fr)] = some (out ++ [(s.drop fr).take (i - fr)]) := app_le (by simp; omega)
    by_cases c1 : i = s.length
    · have c1' : ((i : Nat) : Int) = ((s.length : Nat) : Int) := by omega
      have hd : s.drop i = [] := List.drop_eq_nil_of_le (by omega)
      simp only [c0, c1', decide_true, cond_true]
      rw [← c1', s1, Option.bind_some, a1, Option.bind_some, hd]
      simp only [letO, w1]
      cases m with
      | zero => omega
      | succ m =>
        rw [rSplit5_loop0_succ]
        unfold rSplit5_l0
        have c2 : ¬ ((i + 1 : Nat) : Int) ≤ ((s.length : Nat) : Int) := by omega
        simp only [c2, Int.le_refl, decide_true, decide_false, cond_true, cond_false]
        rfl
    · have c1' : ¬ ((i : Nat) : Int) = ((s.length : Nat) : Int) := by omega
      have hi' : i < s.length := by omega
      have hd : s.drop i = s[i] :: s.drop (i + 1) := List.drop_eq_getElem_cons hi'
      simp only [c0, c1', decide_true, decide_false, cond_true, cond_false, sAt_lt hi', Option.bind_some, letO, w1, s1, a1]
      have hc : decide (((s[i].toNat : Nat) : Int) = ((c.toNat : Nat) : Int)) = decide (s[i] = c) := by
        apply decide_eq_decide.2
        constructor
        · intro hh; exact UInt8.toNat_inj.1 (by omega)
        · intro hh; rw [hh]
      rw [hc, hd, spl]
      by_cases c2 : s[i] = c
      · simp only [c2, decide_true, cond_true, if_true]
        rw [rSplit5_loop n s c hs m (i + 1) (i + 1) (out ++ [(s.drop fr).take (i - fr)]) (by omega) (by omega) (Nat.le_refl _) (by simp; omega)]
        simp
      · simp only [c2, decide_false, cond_false, if_false]
        rw [rSplit5_loop n s c hs m (i + 1) fr out (by omega) (by omega) (by omega) (by omega)]
        have e1 : (s.drop fr).take (i + 1 - fr) = (s.drop fr).take (i - fr) ++ [s[i]] := by
          rw [show i + 1 - fr = (i - fr) + 1 from by omega, List.take_add_one, List.getElem?_drop, show fr + (i - fr) = i from by omega, List.getElem?_eq_getElem hi']
          rfl
        rw [e1]
theorem rSplit5_P (n : Nat) (s : List UInt8) (c : UInt8) (hs : s.length ≤ 1000000) (hn : s.length + 1 < n) : rSplit5_t n s ((c.toNat : Nat) : Int) = some (spl c [] s) := by
  unfold rSplit5_t
  have h := rSplit5_loop n s c hs n 0 0 [] (Nat.zero_le _) (by omega) (Nat.le_refl _) (Nat.zero_le _)
  rw [show ((0 : Nat) : Int) = (0 : Int) from rfl] at h
  rw [h]
  simp
theorem sg_bools (c : UInt8) : isSg c = ((decide ((97 : Int) ≤ ((c.toNat : Nat) : Int)) && decide (((c.toNat : Nat) : Int) ≤ (122 : Int))) || (decide ((65 : Int) ≤ ((c.toNat : Nat) : Int)) && decide (((c.toNat : Nat) : Int) ≤ (90 : Int))) || (decide ((48 : Int) ≤ ((c.toNat : Nat) : Int)) && decide (((c.toNat : Nat) : Int) ≤ (57 : Int))) || decide (((c.toNat : Nat) : Int) = (45 : Int))) := by
  unfold isSg isDig
  have h1 : decide ((97 : Int) ≤ ((c.toNat : Nat) : Int)) = decide (97 ≤ c.toNat) := decide_eq_decide.2 (by omega)
  have h2 : decide (((c.toNat : Nat) : Int) ≤ (122 : Int)) = decide (c.toNat ≤ 122) := decide_eq_decide.2 (by omega)
  have h3 : decide ((65 : Int) ≤ ((c.toNat : Nat) : Int)) = decide (65 ≤ c.toNat) := decide_eq_decide.2 (by omega)
  have h4 : decide (((c.toNat : Nat) : Int) ≤ (90 : Int)) = decide (c.toNat ≤ 90) := decide_eq_decide.2 (by omega)
  have h5 : decide (((c.toNat : Nat) : Int) = (45 : Int)) = decide (c.toNat = 45) := decide_eq_decide.2 (by omega)
  have h6 : decide ((48 : Int) ≤ ((c.toNat : Nat) : Int)) = decide (48 ≤ c.toNat) := decide_eq_decide.2 (by omega)
  have h7 : decide (((c.toNat : Nat) : Int) ≤ (57 : Int)) = decide (c.toNat ≤ 57) := decide_eq_decide.2 (by omega)
  rw [h1, h2, h3, h4, h5, h6, h7]
theorem pSign_bools (c : UInt8) : pSign c = ((decide ((97 : Int) ≤ ((c.toNat : Nat) : Int)) && decide (((c.toNat : Nat) : Int) ≤ (122 : Int))) || (decide ((65 : Int) ≤ ((c.toNat : Nat) : Int)) && decide (((c.toNat : Nat) : Int) ≤ (90 : Int))) || (decide ((48 : Int) ≤ ((c.toNat : Nat) : Int)) && decide (((c.toNat : Nat) : Int) ≤ (57 : Int))) || decide (((c.toNat : Nat) : Int) = (45 : Int)) || decide (((c.toNat : Nat) : Int) = (95 : Int)) || decide (((c.toNat : Nat) : Int) = (46 : Int))) := by
  unfold pSign
  have h6 : decide (((c.toNat : Nat) : Int) = (95 : Int)) = decide (c.toNat = 95) := decide_eq_decide.2 (by omega)
  have h7 : decide (((c.toNat : Nat) : Int) = (46 : Int)) = decide (c.toNat = 46) := decide_eq_decide.2 (by omega)
  rw [h6, h7, ← sg_bools]
theorem rPart5_loop (n : Nat) (s : List UInt8) (hL : s.length ≤ 1000000) : ∀ m j : Nat, j ≤ s.length → s.length - j < m → rPart5_loop0 n m s (j : Int) = some (if (s.drop j).all pSign = true then Sum.inr ((s, ()), ((), ())) else Sum.inl ((false, ()), ((), ())))
  | 0, j, _, h => absurd h (Nat.not_lt_zero _)
  | m + 1, j, hj, h => by
    rw [rPart5_loop0_succ]
    unfold rPart5_l0
    by_cases c0 : j < s.length
    · have c0' : ((j : Nat) : Int) < ((s.length : Nat) : Int) := by omega
      have ih := rPart5_loop n s hL m (j + 1) (by omega) (by omega)
      have hd : s.drop j = s[j] :: s.drop (j + 1) := (List.drop_eq_getElem_cons c0)
      simp only [c0', decide_true, cond_true, sAt_lt c0, Option.bind_some, letO, wrap_succ (show j < 4611686018427387904 by omega), ih, hd, List.all_cons]
      rw [pSign_bools]
      generalize (List.drop (j + 1) s).all pSign = B
      generalize decide ((97 : Int) ≤ ((s[j].toNat : Nat) : Int)) = b1
      generalize decide (((s[j].toNat : Nat) : Int) ≤ (122 : Int)) = b2
      generalize decide ((65 : Int) ≤ ((s[j].toNat : Nat) : Int)) = b3
      generalize decide (((s[j].toNat : Nat) : Int) ≤ (90 : Int)) = b4
      generalize decide ((48 : Int) ≤ ((s[j].toNat : Nat) : Int)) = b5
      generalize decide (((s[j].toNat : Nat) : Int) ≤ (57 : Int)) = b6
      generalize decide (((s[j].toNat : Nat) : Int) = (45 : Int)) = b7
      generalize decide (((s[j].toNat : Nat) : Int) = (95 : Int)) = b8
      generalize decide (((s[j].toNat : Nat) : Int) = (46 : Int)) = b9
      cases b1 <;> cases b2 <;> cases b3 <;> cases b4 <;> cases b5 <;> cases b6 <;> cases b7 <;> cases b8 <;> cases b9 <;> rfl
    · have c0' : ¬ ((j : Nat) : Int) < ((s.length : Nat) : Int) := by omega
      have : s.drop j = [] := List.drop_eq_nil_of_le (by omega)
      simp [c0', this]
theorem rPart5_spec (n : Nat) (s : List UInt8) (hL : s.length ≤ 1000000) (hn : s.length < n) : rPart5_t n s = some (partS s) := by
  unfold rPart5_t partS
  have := rPart5_loop n s hL n 0 (Nat.zero_le _) (by omega)
  rw [show ((0 : Nat) : Int) = (0 : Int) from rfl] at this
  rw [this, List.drop_zero]
  cases s.all pSign with
  | true =>
    simp only [if_true, Option.bind_some, Sum.elim_inr]
    cases decide (s = []) <;> cases decide (s = [46]) <;> cases decide (s = [46, 46]) <;> rfl
  | false =>
    simp only [Bool.false_eq_true, if_false, Option.bind_some, Sum.elim_inl]
    cases decide (s = []) <;> cases decide (s = [46]) <;> cases decide (s = [46, 46]) <;> rfl
theorem rPath5_loop (n : Nat) (l : List (List UInt8)) (hl : l.length ≤ 1000000) (hw : ∀ w ∈ l, w.length ≤ 1000000 ∧ w.length < n) : ∀ m j : Nat, j ≤ l.length → l.length - j < m → rPath5_loop0 n m l (j : Int) = some (if (l.drop j).all partS = true then Sum.inr ((), ((), ())) else Sum.inl ((false, ()), ((), ())))
  | 0, j, _, h => absurd h (Nat.not_lt_zero _)
  | m + 1, j, hj, h => by
    rw [rPath5_loop0_succ]
    unfold rPath5_l0
    by_cases c0 : j < l.length
    · have c0' : ((j : Nat) : Int) < ((l.length : Nat) : Int) := by omega
      have ih := rPath5_loop n l hl hw m (j + 1) (by omega) (by omega)
      have hd : l.drop j = l[j] :: l.drop (j + 1) := (List.drop_eq_getElem_cons c0)
      have hm := hw l[j] (List.getElem_mem c0)
      simp only [c0', decide_true, cond_true, idx_lt c0, Option.bind_some, rPart5_spec n l[j] hm.1 hm.2, letO, wrap_succ (show j < 4611686018427387904 by omega), ih, hd, List.all_cons]
      cases partS l[j] <;> simp
    · have c0' : ¬ ((j : Nat) : Int) < ((l.length : Nat) : Int) := by omega
      have : l.drop j = [] := List.drop_eq_nil_of_le (by omega)
      simp [c0', this]
theorem rPath5_spec (n : Nat) (s : List UInt8) (hL : s.length ≤ 1000000) (hn : 100 ≤ n) : rPath5_t n s = some (pathS s) := by
  unfold rPath5_t pathS
  by_cases h : s.length ≤ 60
  · have h' : ¬ (60 : Int) < ((s.length : Nat) : Int) := by omega
    have hlen := spl_len 47 s []
    have hw : ∀ w ∈ spl 47 [] s, w.length ≤ s.length := fun w hm => by have := spl_mem 47 s [] w hm; simpa using this
    have := rPath5_loop n (spl 47 [] s) (by omega) (fun w hm => ⟨by have := hw w hm; omega, by have := hw w hm; omega⟩) n 0 (Nat.zero_le _) (by omega)
    rw [show ((0 : Nat) : Int) = (0 : Int) from rfl] at this
    simp only [h', decide_false, cond_false]
    rw [show (47 : Int) = (((47 : UInt8).toNat : Nat) : Int) from rfl, rSplit5_P n s 47 hL (by omega)]
    simp only [Option.bind_some]
    rw [this, List.drop_zero]
    cases (spl 47 [] s).all partS <;> simp [h]
  · have h' : (60 : Int) < ((s.length : Nat) : Int) := by omega
    simp [h, h']
end Go.Proofs.YtpiiljpbfioilaaDoor.AM
